package kern_test

import (
	"math"
	"testing"

	"drawknife/api"
	"drawknife/core"
	"drawknife/lib"
)

// P17.2: Step: the space that has the processor, and what its library did.
func TestStep(t *testing.T) {
	k := begin(t, 3, program(loop()), program(does(yield(), set(2, 1), pipe(api.Get, 3, 0))), program(does()))
	gives(t, k, 1, 0)
	gives(t, k, 2, 1)
	gives(t, k, 0, 2)
	steps(t, k, 0, 1, 1)
	in(t, k, 0, 1, api.Handle, -1, added, unblocked(0))
	isTold(t, k, 1, 2, added, unblocked(0))
	isTold(t, k, 2, 0, added, unblocked(0))

	steps(t, k, 0, 1, 5)
	in(t, k, 0, 1, api.Running, 0)
	steps(t, k, 0, 1, 2)
	commits(t, k, 0, 1, 0, yields)
	steps(t, k, 0, 1, 2)
	commits(t, k, 0, 1, 0, nothing)
	commits(t, k, 0, 1, 0, stops)
	isTold(t, k, 0, 1, blocked(0))

	steps(t, k, 1, 2, 8)
	commits(t, k, 1, 2, 0, ended)
	steps(t, k, 2, 0, 6)
	commits(t, k, 2, 0, 0, nothing)
	in(t, k, 2, 0, api.Running, 0)
	demands(t, k, 1, 0, 0)
}

// P17.2: Step: the library's own answer of who went on, in new memory.
func TestStepThatWakes(t *testing.T) {
	k := begin(t, 2, program(does(spawn(1), spawn(1), on(api.Jump, 0)), loop()))
	gives(t, k, 0, 1)
	to(t, k, 1, api.Inside)
	commits(t, k, 1, 0, 0, wakes(1))
	to(t, k, 1, api.Inside)
	commits(t, k, 1, 0, 0, wakes(2))
	may(t, k, 0, 0, 1, 2)
	takes(t, k, 1)
	gives(t, k, 0, 0, 1)
	isTold(t, k, 0, 0, added, preempted(0))
	if list := k.Lib(0).Rows().Row(1); len(list) != 2 || list[0] != 1 || list[1] != 2 {
		t.Fatalf("row 1 is %d", list)
	}
}

// P17.2: Step: the choice is that of the commit.
func TestStepByChoice(t *testing.T) {
	first := does(on(api.Lock, 0), spawn(1), spawn(1), spawn(1), on(api.Unlock, 0))
	waits := does(on(api.Lock, 0), on(api.Unlock, 0))
	for _, c := range []struct{ choice, slot int }{
		{0, 1}, {1, 2}, {2, 3}, {3, 1}, {5, 3}, {-1, 3}, {-2, 2}, {-3, 1}, {1 << 32, 2}, {-1 << 32, 3}, {math.MaxInt, 2}, {math.MinInt, 2},
	} {
		k := begin(t, 1, program(loop()), program(first, waits))
		thread(t, k, 1, 0, 4)
		for slot := 1; slot < 4; slot++ {
			thread(t, k, 1, slot, 1)
		}
		gives(t, k, 1, 0)
		to(t, k, 0, api.Inside)
		stepsBy(t, k, 0, c.choice, 1, lib.Did{Commit: true, Effect: wakes(c.slot)})
		may(t, k, 1, 0, c.slot)
	}
}

// P17.2: Preempt: a new vessel, with what is left of the one that it was in.
func TestPreempt(t *testing.T) {
	k := begin(t, 3, alike(2, loop())...)
	gives(t, k, 1, 1, 2)
	to(t, k, 1, api.Running)
	is(t, k.Preempt(1), api.OK)
	isTold(t, k, 1, 1, preempted(0))
	isTold(t, k, 2, 1, added)
	is(t, k.Preempt(2), api.OK)
	isTold(t, k, 2, 1)
	is(t, k.Preempt(1), api.OK)
	isTold(t, k, 1, 1, preempted(0))
	waits(t, k, 0, unblocked(0))
	waits(t, k, 1)

	steps(t, k, 1, 1, 1)
	is(t, k.Preempt(1), api.OK)
	isTold(t, k, 1, 1, cut(api.Handle, -1), preempted(0))
	is(t, k.Preempt(0), api.ErrIdle)
	is(t, k.Preempt(3), api.ErrArg)
	is(t, k.Preempt(-1), api.ErrArg)
	free(t, k, 0)
	demands(t, k, 1, 1)
}

// reader is a function that asks for a block, and goes on with its word.
func reader(block uint64) []api.Instr {
	return does(set(2, block), two(api.Read, 3, 2), on(api.Jump, 2))
}

// P17.2: Done: who asked goes on, and the space's least processor is told so; or that waits.
func TestDone(t *testing.T) {
	k := begin(t, 4, program(reader(0)), program(reader(1)), program(loop()))
	stopsAll(t, k, 0, 1)
	demands(t, k, 0, 0, 1)
	waits(t, k, 0)
	gives(t, k, 1, 2, 3)
	gives(t, k, 2, 0)
	to(t, k, 2, api.Resting)
	isTold(t, k, 3, 1, added)

	is(t, k.Done(1, 0), api.OK)
	isTold(t, k, 2, 1, unblocked(0))
	isTold(t, k, 3, 1, added)
	isTold(t, k, 0, 2, added, unblocked(0))
	waits(t, k, 0)
	demands(t, k, 0, 1, 1)
	is(t, k.Done(1, 0), api.ErrNone)
	isTold(t, k, 2, 1, unblocked(0))

	is(t, k.Done(0, 0), api.OK)
	waits(t, k, 0, unblocked(0))
	waits(t, k, 1)
	demands(t, k, 1, 1, 1)
	is(t, k.Done(0, 0), api.ErrNone)
	waits(t, k, 0, unblocked(0))
	free(t, k, 1)
}

// P17.2: Done: what the processor that is told of it ran is not lost.
func TestDoneTellsOneThatRuns(t *testing.T) {
	k := begin(t, 2, program(does(spawn(1), set(2, 1), on(api.Jump, 1)), reader(0)))
	gives(t, k, 0, 1)
	to(t, k, 1, api.Inside)
	commits(t, k, 1, 0, 0, wakes(1))
	thread(t, k, 0, 1, 2)
	in(t, k, 1, 0, api.Running, 0)
	is(t, k.Done(0, 0), api.OK)
	isTold(t, k, 1, 0, preempted(0), unblocked(1))
	waits(t, k, 0)
}

// P17.2: Done: a space that there is not is ErrArg, also if no request waits anywhere; no request in that space is ErrNone.
func TestDoneThatMayNotBe(t *testing.T) {
	for _, spaces := range []int{1, 2, 8} {
		k := begin(t, 1, append([]api.Program{program(reader(0))}, alike(spaces-1, loop())...)...)
		refusesAll := func() {
			t.Helper()
			for _, n := range ends() {
				for _, space := range none(spaces) {
					if space < 0 || space >= spaces {
						is(t, k.Done(space, n), api.ErrArg)
					}
				}
				for space := 1; space < spaces; space++ {
					is(t, k.Done(space, n), api.ErrNone)
				}
			}
		}
		refusesAll()
		is(t, k.Done(0, 0), api.ErrNone)
		stopsAll(t, k, 0)
		gives(t, k, 0, 0)
		refusesAll()
		isTold(t, k, 0, 0, added)
		may(t, k, 0)
		is(t, k.Done(0, 0), api.OK)
		refusesAll()
		isTold(t, k, 0, 0, unblocked(0))
		for space := 1; space < spaces; space++ {
			waits(t, k, space, unblocked(0))
		}
	}
}

// P17.2: Done: the request by how many there are, from 0 on, as a rest that is not below 0.
func TestDoneOfWhich(t *testing.T) {
	crew := does(spawn(1), spawn(1), spawn(1))
	for _, c := range []struct{ n, slot int }{
		{0, 1}, {1, 2}, {2, 3}, {3, 1}, {4, 2}, {-1, 3}, {-2, 2}, {-3, 1}, {1 << 32, 2}, {-1 << 32, 3}, {math.MaxInt, 2}, {math.MinInt, 2},
	} {
		k := begin(t, 1, program(loop()), program(crew, reader(1)))
		thread(t, k, 1, 0, 3)
		for slot := 1; slot < 4; slot++ {
			thread(t, k, 1, slot, 2)
		}
		is(t, k.Done(1, c.n), api.OK)
		waits(t, k, 1, unblocked(0), unblocked(c.slot))
		may(t, k, 1, 0, c.slot)
		for range 2 {
			is(t, k.Done(1, c.n), api.OK)
		}
		is(t, k.Done(1, c.n), api.ErrNone)
		demands(t, k, 1, 4)
	}
}

// P17.2: Done: a request does what it is for: a Write is in the block, a Read has it.
func TestDoneOfBlocks(t *testing.T) {
	k := begin(t, 1, program(does(set(2, 1), set(3, 77), two(api.Write, 2, 3), two(api.Read, 4, 2), on(api.Jump, 4))))
	thread(t, k, 0, 0, 3)
	is(t, k.Done(0, 0), api.OK)
	thread(t, k, 0, 0, 1)
	word(t, k, 0, 0, 4, 0)
	is(t, k.Done(0, 0), api.OK)
	word(t, k, 0, 0, 4, 77)
	waits(t, k, 0, unblocked(0), unblocked(0), unblocked(0))
}

// sleeper is a function that sleeps for so many moments, and goes on.
func sleeper(moments uint64) []api.Instr {
	return does(set(2, moments), one(api.Sleep, 2), on(api.Jump, 2))
}

// P17.2: Tick: a moment goes by in each space, whether it has a processor or not; who is due goes on, and their space is told so.
func TestTick(t *testing.T) {
	k := begin(t, 4, program(sleeper(1)), program(sleeper(2)), program(sleeper(1)), program(loop()), program(sleeper(3)))
	stopsAll(t, k, 0, 1, 2, 4)
	gives(t, k, 2, 1, 3)
	gives(t, k, 3, 0)
	gives(t, k, 1, 2)
	to(t, k, 1, api.Resting)
	to(t, k, 2, api.Resting)
	demands(t, k, 0, 0, 0, 1, 0)

	k.Tick()
	demands(t, k, 1, 0, 1, 1, 0)
	waits(t, k, 0, unblocked(0))
	isTold(t, k, 1, 2, unblocked(0))
	isTold(t, k, 3, 2, added)
	isTold(t, k, 0, 3, added, unblocked(0))
	in(t, k, 2, 1, api.Resting, -1)
	waits(t, k, 4)

	k.Tick()
	demands(t, k, 1, 1, 1, 1, 0)
	isTold(t, k, 2, 1, unblocked(0))
	waits(t, k, 0, unblocked(0))
	isTold(t, k, 1, 2, unblocked(0))
	isTold(t, k, 3, 2, added)
	waits(t, k, 4)

	k.Tick()
	demands(t, k, 1, 1, 1, 1, 1)
	waits(t, k, 4, unblocked(0))
	waits(t, k, 0, unblocked(0))
	free(t, k)
}

// P17.2: Tick: if nobody is due, nobody is told anything: who runs, runs.
func TestTickOfNobody(t *testing.T) {
	k := begin(t, 2, alike(2, loop())...)
	gives(t, k, 1, 0)
	to(t, k, 0, api.Running)
	for range 100 {
		k.Tick()
	}
	in(t, k, 0, 1, api.Running, 0)
	waits(t, k, 0, unblocked(0))
	demands(t, k, 1, 1)
}

// P17.2: Tick: of those that go on at once all are told, rising, to one that runs, too.
func TestTickOfMany(t *testing.T) {
	first := does(spawn(2), spawn(1), spawn(2), spawn(1), spawn(1), set(2, 3), on(api.Jump, 5))
	k := begin(t, 2, program(first, sleeper(2), sleeper(1)), program(first, sleeper(2), sleeper(1)))
	for space := range 2 {
		thread(t, k, space, 0, 5)
		for slot := 5; slot > 0; slot-- {
			thread(t, k, space, slot, 2)
		}
	}
	gives(t, k, 1, 1)
	to(t, k, 1, api.Running)
	k.Tick()
	isTold(t, k, 1, 1, preempted(0), unblocked(1), unblocked(3))
	waits(t, k, 0, unblocked(0), unblocked(1), unblocked(3))
	demands(t, k, 3, 3)
	k.Tick()
	isTold(t, k, 1, 1, preempted(0), unblocked(1), unblocked(3), unblocked(2), unblocked(4), unblocked(5))
	waits(t, k, 0, unblocked(0), unblocked(1), unblocked(3), unblocked(2), unblocked(4), unblocked(5))
	demands(t, k, 6, 6)
}

// P17.2: Lib: that of a space, the thing itself; nil of one that there is not.
func TestLib(t *testing.T) {
	for _, spaces := range []int{1, 2, 8} {
		k := begin(t, 2, alike(spaces, loop())...)
		var seen []*lib.Lib
		var inside []*core.Space
		for space := range spaces {
			l := k.Lib(space)
			if l == nil || l != k.Lib(space) || l.Space() == nil || l.Space() != k.Lib(space).Space() {
				t.Fatalf("library %d is not the same each time", space)
			}
			for n := range seen {
				if seen[n] == l || inside[n] == l.Space() {
					t.Fatalf("libraries %d and %d are one", n, space)
				}
			}
			seen, inside = append(seen, l), append(inside, l.Space())
		}
		for _, space := range none(spaces) {
			if (space < 0 || space >= spaces) && k.Lib(space) != nil {
				t.Fatalf("of %d there is a library %d", spaces, space)
			}
		}
		k.Lib(spaces - 1).Tell([]api.Event{blocked(3)})
		waits(t, k, spaces-1, unblocked(0), blocked(3))
		gives(t, k, spaces-1, 1)
		isTold(t, k, 1, spaces-1, added, unblocked(0), blocked(3))
	}
}

// P17.1: each library is one of as many processors as the kernel has.
func TestLibrariesOfSoManyProcessors(t *testing.T) {
	for _, procs := range []int{1, 2, 63, 64} {
		k := begin(t, procs, alike(2, loop())...)
		for space := range 2 {
			l := k.Lib(space)
			if l.Rows().Add(procs, 5) || !l.Rows().Add(procs-1, 5) {
				t.Fatalf("of %d library %d has not just as many rows", procs, space)
			}
			if l.Grant(procs) || !l.Grant(procs-1) {
				t.Fatalf("of %d library %d has not just as many processors", procs, space)
			}
		}
	}
}
