package lib_test

import (
	"testing"

	"drawknife/api"
	"drawknife/core"
	"drawknife/lib"
)

// runsIn is a library of some processors, of which 0 runs thread 0 of a space.
func runsIn(t *testing.T, s *core.Space, procs int) *lib.Lib {
	t.Helper()
	l := lib.New(s, procs)
	grants(t, l, 0)
	to(t, l, 0, api.Running)
	is(t, l, 0, api.Running, 0)
	return l
}

// insideIn is that, but thread 0 is inside.
func insideIn(t *testing.T, s *core.Space, procs int) *lib.Lib {
	t.Helper()
	l := runsIn(t, s, procs)
	to(t, l, 0, api.Inside)
	is(t, l, 0, api.Inside, 0)
	locked(t, l, true)
	return l
}

// P16.2: ErrIdle of a processor that it has not, whatever it has besides.
func TestIdle(t *testing.T) {
	for _, s := range stations() {
		l := s.reach(t)
		before, _ := l.Look(1)
		hasNot(t, l, 0, 2)
		hasNot(t, l, noProcs(3)...)
		is(t, l, 1, before.Mode, before.Thread, before.Events...)
		waits(t, l)
		locked(t, l, s.locked)
	}
}

// P16.2: the way from where it is told of its first thread to where that is behind an instruction of the library.
func TestTheWayThrough(t *testing.T) {
	for _, choice := range ends() {
		l := begin(t, 1, does(one(api.Self, 2), set(2, 5), on(api.Jump, 0)))
		grants(t, l, 0)
		stepsBy(t, l, 0, choice)
		is(t, l, 0, api.Handle, -1, added, unblocked(0))
		locked(t, l, true)
		stepsBy(t, l, 0, choice)
		is(t, l, 0, api.Handle, -1, unblocked(0))
		row(t, l, 0)
		stepsBy(t, l, 0, choice)
		is(t, l, 0, api.Handle, -1)
		row(t, l, 0, 0)
		locked(t, l, true)
		stepsBy(t, l, 0, choice)
		is(t, l, 0, api.Seek, -1)
		locked(t, l, false)
		stepsBy(t, l, 0, choice)
		is(t, l, 0, api.Pick, -1)
		row(t, l, 0, 0)
		locked(t, l, true)
		stepsBy(t, l, 0, choice)
		is(t, l, 0, api.Running, 0)
		row(t, l, 0)
		locked(t, l, false)
		stepsBy(t, l, 0, choice)
		is(t, l, 0, api.Enter, 0)
		locked(t, l, false)
		stepsBy(t, l, 0, choice)
		is(t, l, 0, api.Inside, 0)
		locked(t, l, true)
		commitsBy(t, l, 0, choice, 0, nothing)
		is(t, l, 0, api.Running, 0)
		locked(t, l, false)
		for range 2 {
			commitsBy(t, l, 0, choice, 0, nothing)
			is(t, l, 0, api.Running, 0)
		}
		stepsBy(t, l, 0, choice)
		is(t, l, 0, api.Enter, 0)
		row(t, l, 0)
		waits(t, l)
	}
}

// P16.2: Upcall, Seek and Enter wait while a section is on its way, and go on behind it.
func TestLockedIsWaitedFor(t *testing.T) {
	l := lib.New(crew(t, 3, does(one(api.Self, 2)), does(one(api.Self, 2)), does(one(api.Exit, 0))), 5)
	grants(t, l, 4)
	to(t, l, 4, api.Enter)
	grants(t, l, 3)
	to(t, l, 3, api.Running) // thread 2 or 1, from the end of row 4
	is(t, l, 3, api.Running, 2)
	grants(t, l, 2)
	to(t, l, 2, api.Seek)
	grants(t, l, 1, 0)
	steps(t, l, 1, 1)
	is(t, l, 1, api.Handle, -1, added)
	for range 3 {
		steps(t, l, 0, 1)
		isTold(t, l, 0, added)
		steps(t, l, 2, 1)
		is(t, l, 2, api.Seek, -1)
		steps(t, l, 4, 1)
		is(t, l, 4, api.Enter, 0)
		locked(t, l, true)
	}
	steps(t, l, 3, 1) // what runs goes on
	is(t, l, 3, api.Enter, 2)
	steps(t, l, 3, 1)
	is(t, l, 3, api.Enter, 2)
	steps(t, l, 1, 2)
	is(t, l, 1, api.Seek, -1)
	locked(t, l, false)
	steps(t, l, 2, 1)
	is(t, l, 2, api.Pick, -1)
	for range 2 {
		steps(t, l, 1, 1)
		is(t, l, 1, api.Seek, -1)
		steps(t, l, 3, 1)
		is(t, l, 3, api.Enter, 2)
	}
	steps(t, l, 2, 1)
	is(t, l, 2, api.Running, 1)
	steps(t, l, 3, 1)
	is(t, l, 3, api.Inside, 2)
	commits(t, l, 3, 2, ended)
	is(t, l, 3, api.Seek, -1)
	steps(t, l, 0, 1)
	is(t, l, 0, api.Handle, -1, added)
}

// P16.2: Handle: of each event that a thread may run by it comes into this processor's row, behind; of others nobody.
func TestHandle(t *testing.T) {
	list := []struct {
		e     api.Event
		comes bool
	}{
		{unblocked(3), true}, {blocked(4), false}, {preempted(5), true}, {api.Event{Kind: api.Added, Thread: 6}, false},
		{unblocked(-1), false}, {preempted(-2), false}, {api.Event{Kind: api.Unblocked, Thread: 2, Mode: -1}, true},
		{api.Event{Kind: 0, Thread: 8}, false}, {api.Event{Kind: 5, Thread: 9}, false}, {unblocked(3), false}, {unblocked(0), true},
		{unblocked(77), false}, {unblocked(1 << 40), true},
	}
	var all []api.Event
	for _, x := range list {
		all = append(all, x.e)
	}
	l := lib.New(nil, 3)
	comes(t, l.Rows(), 1, 11)
	comes(t, l.Rows(), 2, 77) // who is in a row does not come into another
	tell(t, l, all...)
	grants(t, l, 1)
	steps(t, l, 1, 2)
	in := []int{11}
	for k, x := range list {
		is(t, l, 1, api.Handle, -1, all[k:]...)
		row(t, l, 1, in...)
		locked(t, l, true)
		steps(t, l, 1, 1)
		if x.comes {
			in = append(in, x.e.Thread)
		}
	}
	is(t, l, 1, api.Handle, -1)
	row(t, l, 1, in...)
	row(t, l, 0)
	row(t, l, 2, 77)
	locked(t, l, true)
	steps(t, l, 1, 1)
	is(t, l, 1, api.Seek, -1)
	locked(t, l, false)
}

// P16.2: Pick: the first of its own row, else the last of the first row that has one, else nobody: Resting; the section ends.
func TestPick(t *testing.T) {
	l := lib.New(nil, 4)
	comes(t, l.Rows(), 0, 1, 2)
	comes(t, l.Rows(), 1, 3, 4)
	comes(t, l.Rows(), 2, 5, 6)
	for _, thread := range []int{5, 6, 2, 1, 4, 3} {
		grants(t, l, 2)
		to(t, l, 2, api.Pick)
		locked(t, l, true)
		steps(t, l, 2, 1)
		is(t, l, 2, api.Running, thread)
		locked(t, l, false)
		if _, in := l.Rows().Where(thread); in {
			t.Fatalf("%d is in a row", thread)
		}
		revokes(t, l, 2)
		waits(t, l, preempted(thread))
		l = clearedOf(l)
	}
	grants(t, l, 2)
	to(t, l, 2, api.Pick)
	steps(t, l, 2, 1)
	is(t, l, 2, api.Resting, -1)
	locked(t, l, false)
}

// clearedOf is a library of the same rows, without anything that waits.
func clearedOf(l *lib.Lib) *lib.Lib {
	other := lib.New(nil, 4)
	for proc := range 4 {
		for _, thread := range l.Rows().Row(proc) {
			other.Rows().Add(proc, thread)
		}
	}
	return other
}

// P16.2: Resting: Seek, if any row has a thread, locked or not; else it stays.
func TestResting(t *testing.T) {
	for proc := range 3 {
		l := lib.New(nil, 3)
		grants(t, l, 1)
		to(t, l, 1, api.Resting)
		for range 3 {
			steps(t, l, 1, 1)
			is(t, l, 1, api.Resting, -1)
		}
		grants(t, l, 2)
		steps(t, l, 2, 1)
		locked(t, l, true)
		steps(t, l, 1, 1)
		is(t, l, 1, api.Resting, -1)
		comes(t, l.Rows(), proc, 0)
		is(t, l, 1, api.Resting, -1)
		steps(t, l, 1, 1)
		is(t, l, 1, api.Seek, -1)
		locked(t, l, true)
		row(t, l, proc, 0)
	}
}

// P16.2: Running: plain instructions and the kernel's are commits at once, also while it is locked, and it runs on.
func TestRunning(t *testing.T) {
	l := runsIn(t, space(t, does(set(2, 1), two(api.Store, 2, 2), two(api.Load, 3, 2), one(api.Print, 3), pipe(api.Put, 2, 0), pipe(api.Get, 3, 0), one(api.Sleep, 4), two(api.Read, 2, 4))), 2)
	grants(t, l, 1)
	steps(t, l, 1, 1)
	for pc := range 7 {
		if x, _ := l.Space().Look(0); x.PC != pc {
			t.Fatalf("%+v is not at %d", x, pc)
		}
		commits(t, l, 0, 0, nothing)
		is(t, l, 0, api.Running, 0)
		locked(t, l, true)
	}
	commits(t, l, 0, 0, stops)
	isTold(t, l, 0, blocked(0))
	is(t, l, 1, api.Handle, -1, added)
	waits(t, l)
	locked(t, l, true)
	may(t, l)
}

// P16.2: Running: each instruction of the kernel that may block: a new vessel, with Blocked.
func TestRunningStops(t *testing.T) {
	list := [][]api.Instr{
		does(pipe(api.Get, 2, 0)),
		does(two(api.Read, 2, 3)),
		does(two(api.Write, 3, 2)),
		does(set(2, 1), one(api.Sleep, 2)),
		does(pipe(api.Put, 2, 1), pipe(api.Put, 2, 1)),
	}
	for _, code := range list {
		l := runsIn(t, space(t, code), 1)
		for range len(code) - 1 {
			commits(t, l, 0, 0, nothing)
		}
		commits(t, l, 0, 0, stops)
		isTold(t, l, 0, blocked(0))
		row(t, l, 0)
		waits(t, l)
		to(t, l, 0, api.Resting)
	}
	l := runsIn(t, crew(t, 3, does(pipe(api.Get, 2, 0)), does(pipe(api.Get, 2, 0)), loop()), 1)
	commits(t, l, 0, 0, stops)
	isTold(t, l, 0, blocked(0))
	row(t, l, 0, 1, 2)
	to(t, l, 0, api.Running)
	is(t, l, 0, api.Running, 1)
	commits(t, l, 0, 1, stops)
	isTold(t, l, 0, blocked(1))
}

// P16.2: Running: a fault ends the thread: Seek; who joined it is told of, to the least processor.
func TestRunningEnds(t *testing.T) {
	fault := does(set(2, 99), two(api.Load, 3, 2))
	l := runsIn(t, space(t, fault), 2)
	commits(t, l, 0, 0, nothing)
	grants(t, l, 1)
	steps(t, l, 1, 1)
	commits(t, l, 0, 0, ended)
	is(t, l, 0, api.Seek, -1)
	locked(t, l, true)
	may(t, l)

	for _, least := range []int{0, 1} {
		l, runner, other := joined(t, fault, least == 1)
		commits(t, l, runner, 1, nothing)
		commits(t, l, runner, 1, endsAndWakes(0))
		if runner < other {
			isTold(t, l, runner, unblocked(0)) // of the Seek that it was in nothing is left
			isTold(t, l, other, added)
		} else {
			isTold(t, l, other, unblocked(0))
			is(t, l, runner, api.Seek, -1)
		}
		waits(t, l)
		row(t, l, 0)
		row(t, l, 1)
	}
}

// joined is a library whose thread 1 runs, joined by thread 0; the processor that it runs on, and another one, which has just come.
func joined(t *testing.T, code []api.Instr, least bool) (l *lib.Lib, runner, other int) {
	t.Helper()
	s := space(t, does(spawn(1), two(api.Join, 2, 1), on(api.Jump, 2)), code)
	doesBy(t, s, 0, 2)
	l = lib.New(s, 2)
	runner, other = 1, 0
	if least {
		runner, other = 0, 1
	}
	grants(t, l, runner)
	to(t, l, runner, api.Running)
	is(t, l, runner, api.Running, 1)
	grants(t, l, other)
	return l, runner, other
}

// P16.2: Running: who goes on by it is told of; if this is the least processor, it is told that it lost its own thread ahead of that.
func TestRunningWakes(t *testing.T) {
	s := crew(t, 3, does(pipe(api.Put, 3, 0), pipe(api.Put, 3, 0), set(2, 1)), does(pipe(api.Get, 2, 0)))
	doesBy(t, s, 2, 1)
	doesBy(t, s, 1, 1)
	l := runsIn(t, s, 3)
	commits(t, l, 0, 0, wakes(2))
	isTold(t, l, 0, preempted(0), unblocked(2))
	locked(t, l, false)
	steps(t, l, 0, 5)
	is(t, l, 0, api.Pick, -1)
	row(t, l, 0, 0, 2)
	steps(t, l, 0, 1)
	is(t, l, 0, api.Running, 0)
	revokes(t, l, 0)
	grants(t, l, 2)
	to(t, l, 2, api.Running)
	is(t, l, 2, api.Running, 0) // of its own row; 2 is in row 0 still
	grants(t, l, 1)
	to(t, l, 1, api.Running)
	is(t, l, 1, api.Running, 2)
	commits(t, l, 2, 0, wakes(1))
	is(t, l, 2, api.Running, 0)
	isTold(t, l, 1, preempted(2), unblocked(1))
}

// P16.2: Inside: it goes on: Running, with the same thread; who goes on by it comes into this processor's row, in order, not told of.
func TestInsideGoesOn(t *testing.T) {
	l := insideIn(t, space(t, does(spawn(1), spawn(1), set(2, 1)), loop()), 2)
	comes(t, l.Rows(), 0, 9)
	comes(t, l.Rows(), 1, 8)
	commits(t, l, 0, 0, wakes(1))
	is(t, l, 0, api.Running, 0)
	locked(t, l, false)
	row(t, l, 0, 9, 1)
	row(t, l, 1, 8)
	steps(t, l, 0, 2)
	commits(t, l, 0, 0, wakes(2))
	is(t, l, 0, api.Running, 0)
	row(t, l, 0, 9, 1, 2)
	waits(t, l)
	commits(t, l, 0, 0, nothing)

	// on a processor that is not the least, whose row it is all the same
	s := space(t, does(spawn(1), set(2, 1)), loop())
	l = lib.New(s, 3)
	grants(t, l, 2)
	to(t, l, 2, api.Inside)
	grants(t, l, 0)
	commits(t, l, 2, 0, wakes(1))
	is(t, l, 2, api.Running, 0)
	row(t, l, 2, 1)
	row(t, l, 0)
	isTold(t, l, 0, added)
}

// waiters is a space in which threads 1 and on have done the other code, and wait; thread 0, that has mutex 0, does code next.
func waiters(t *testing.T, count int, code, other []api.Instr) *core.Space {
	t.Helper()
	s := crew(t, count, append(does(on(api.Lock, 0)), code...), other)
	doesBy(t, s, 0, 1)
	for slot := 1; slot < count; slot++ {
		doesBy(t, s, slot, len(other))
	}
	return s
}

// P16.2: Inside: several go on by it in order; by choice another one goes on.
func TestInsideWakesByChoice(t *testing.T) {
	locks := does(on(api.Lock, 0))
	for _, c := range []struct{ choice, who int }{{0, 1}, {1, 2}, {2, 3}, {3, 1}, {-1, 3}, {1<<63 - 1, 2}, {-1 << 63, 2}, {1 << 32, 2}} {
		l := insideIn(t, waiters(t, 4, does(on(api.Unlock, 0)), locks), 1)
		commitsBy(t, l, 0, c.choice, 0, wakes(c.who))
		row(t, l, 0, c.who)
		is(t, l, 0, api.Running, 0)
		waits(t, l)
	}
	// each has a mutex of its own to wait with, so that all go on at once
	s := crew(t, 3, does(on(api.Broadcast, 1), set(2, 1)), does(on(api.Lock, 0), api.Instr{Op: api.Wait, N: 1, C: 0}), does(on(api.Lock, 1), api.Instr{Op: api.Wait, N: 1, C: 1}))
	doesBy(t, s, 2, 2)
	doesBy(t, s, 1, 2)
	l := insideIn(t, s, 2)
	comes(t, l.Rows(), 0, 9)
	commits(t, l, 0, 0, wakes(2, 1))
	row(t, l, 0, 9, 2, 1)
	is(t, l, 0, api.Running, 0)
	locked(t, l, false)
}

// P16.2: Inside: it stops: Seek; nothing is told of it, and it comes into no row.
func TestInsideStops(t *testing.T) {
	l := insideIn(t, space(t, does(on(api.Down, 0))), 2)
	grants(t, l, 1)
	commits(t, l, 0, 0, stops)
	is(t, l, 0, api.Seek, -1)
	locked(t, l, false)
	row(t, l, 0)
	waits(t, l)
	isTold(t, l, 1, added)

	// one that stops, and by which another one goes on
	s := waiters(t, 2, does(api.Instr{Op: api.Wait, N: 1, C: 0}), does(on(api.Lock, 0)))
	l = insideIn(t, s, 1)
	commits(t, l, 0, 0, core.Effect{Stopped: true, Woken: []int{1}})
	is(t, l, 0, api.Seek, -1)
	locked(t, l, false)
	row(t, l, 0, 1)
	waits(t, l)
}

// P16.2: Inside: it ends: Seek; who joined it comes into the row. Where there is no next instruction, it ends, too.
func TestInsideEnds(t *testing.T) {
	for _, code := range [][]api.Instr{does(one(api.Exit, 0)), nil} {
		l := insideIn(t, space(t, code), 1)
		commits(t, l, 0, 0, ended)
		is(t, l, 0, api.Seek, -1)
		locked(t, l, false)
		row(t, l, 0)
		waits(t, l)

		l, runner, other := joined(t, code, false)
		to(t, l, runner, api.Inside)
		commits(t, l, runner, 1, endsAndWakes(0))
		is(t, l, runner, api.Seek, -1)
		locked(t, l, false)
		row(t, l, runner, 0)
		row(t, l, other)
		isTold(t, l, other, added)
	}
}

// P16.2: Inside: it yields: Seek; it comes into the row, behind.
func TestInsideYields(t *testing.T) {
	l := insideIn(t, crew(t, 3, does(yield(), set(2, 1)), loop()), 2)
	row(t, l, 0, 1, 2)
	commits(t, l, 0, 0, yields)
	is(t, l, 0, api.Seek, -1)
	locked(t, l, false)
	row(t, l, 0, 1, 2, 0)
	row(t, l, 1)
	waits(t, l)
	to(t, l, 0, api.Running)
	is(t, l, 0, api.Running, 1)

	l = insideIn(t, space(t, does(yield(), set(2, 1))), 1)
	commits(t, l, 0, 0, yields)
	row(t, l, 0, 0)
	to(t, l, 0, api.Running)
	is(t, l, 0, api.Running, 0)
}

// lost is a library whose processor 0 was taken away with thread 0 inside; processor 1 was just told of it, ahead of more.
func lost(t *testing.T, s *core.Space, more ...api.Event) *lib.Lib {
	t.Helper()
	l := insideIn(t, s, 2)
	revokes(t, l, 0)
	tell(t, l, more...)
	locked(t, l, true)
	grants(t, l, 1)
	isTold(t, l, 1, append(events(added, cut(api.Inside, 0)), more...)...)
	return l
}

// P16.2: Upcall, of a section that was Inside: its thread's next instruction is done; who goes on by it comes into this row, in order, then the thread, if it may run.
func TestUpcallTakesInsideToItsEnd(t *testing.T) {
	fails := does(on(api.Unlock, 0)) // an error of the instruction is no end of the thread
	wait := does(api.Instr{Op: api.Wait, N: 1, C: 0})
	cases := []struct {
		s      *core.Space
		effect core.Effect
		in     []int
	}{
		{space(t, does(one(api.Self, 2))), nothing, []int{0}},
		{space(t, fails), nothing, []int{0}},
		{space(t, does(yield())), yields, []int{0}},
		{space(t, does(spawn(1)), loop()), wakes(1), []int{1, 0}},
		{space(t, does(one(api.Exit, 0))), ended, nil},
		{space(t, nil), ended, nil},
		{space(t, does(on(api.Down, 0))), stops, nil},
		{waiters(t, 2, wait, does(on(api.Lock, 0))), core.Effect{Stopped: true, Woken: []int{1}}, []int{1}},
		{waiters(t, 3, does(on(api.Unlock, 0)), does(on(api.Lock, 0))), wakes(1), []int{1, 0}},
	}
	for _, c := range cases {
		l := lost(t, c.s, blocked(5), unblocked(6))
		comes(t, l.Rows(), 1, 9)
		commits(t, l, 1, 0, c.effect)
		isTold(t, l, 1, added, blocked(5), unblocked(6))
		row(t, l, 1, append([]int{9}, c.in...)...)
		row(t, l, 0)
		locked(t, l, false)
		waits(t, l)
		steps(t, l, 1, 1)
		is(t, l, 1, api.Handle, -1, added, blocked(5), unblocked(6))
		locked(t, l, true)
	}
}

// P16.2: Upcall, of a section that was Inside: by choice.
func TestUpcallTakesInsideToItsEndByChoice(t *testing.T) {
	for _, c := range []struct{ choice, who int }{{0, 1}, {1, 2}, {2, 3}, {-1, 3}, {1<<63 - 1, 2}, {1 << 32, 2}} {
		l := lost(t, waiters(t, 4, does(on(api.Unlock, 0)), does(on(api.Lock, 0))))
		commitsBy(t, l, 1, c.choice, 0, wakes(c.who))
		row(t, l, 1, c.who, 0)
		isTold(t, l, 1, added)
	}
}

// P16.2: Upcall, of one that ends and is joined: who joined it comes into the row, it does not.
func TestUpcallEndsWhoIsJoined(t *testing.T) {
	l, runner, other := joined(t, does(one(api.Exit, 0)), false)
	to(t, l, runner, api.Inside)
	revokes(t, l, runner)
	isTold(t, l, other, cut(api.Inside, 1))
	commits(t, l, other, 1, endsAndWakes(0))
	isTold(t, l, other)
	row(t, l, other, 0)
	row(t, l, runner)
	locked(t, l, false)
}

// P16.2: Upcall, of a section in which events were looked at, or a thread for: it ends, and that is all; its events, which were told along, are looked at next.
func TestUpcallTakesOthersToTheirEnd(t *testing.T) {
	for _, s := range stations() {
		if !s.locked || s.mode == api.Inside {
			continue
		}
		l := s.reach(t)
		grants(t, l, 2)
		revokes(t, l, 1)
		isTold(t, l, 2, s.left...)
		steps(t, l, 2, 1)
		isTold(t, l, 2, s.left[1:]...)
		locked(t, l, false)
		steps(t, l, 2, 1)
		is(t, l, 2, api.Handle, -1, s.left[1:]...)
		locked(t, l, true)
		preempts(t, l, 2) // now of its own section
		isTold(t, l, 2, append(events(cut(api.Handle, -1)), s.left[1:]...)...)
		steps(t, l, 2, 1)
		isTold(t, l, 2, s.left[1:]...)
		locked(t, l, false)
	}
}

// P16.2: Upcall: the first event of a section goes, wherever it is, one a step; others keep their order.
func TestUpcallOneSectionAStep(t *testing.T) {
	l := lib.New(space(t, does(set(2, 1), set(2, 2), set(2, 3))), 1)
	grants(t, l, 0)
	tell(t, l, blocked(4), cut(api.Pick, 3), unblocked(5), cut(api.Inside, 0), api.Event{Kind: api.Blocked, Thread: 2, Mode: 77}, blocked(6))
	isTold(t, l, 0, unblocked(0), blocked(4), cut(api.Pick, 3), unblocked(5), cut(api.Inside, 0), api.Event{Kind: api.Blocked, Thread: 2, Mode: 77}, blocked(6))
	steps(t, l, 0, 1)
	isTold(t, l, 0, unblocked(0), blocked(4), unblocked(5), cut(api.Inside, 0), api.Event{Kind: api.Blocked, Thread: 2, Mode: 77}, blocked(6))
	commits(t, l, 0, 0, nothing) // whatever its class
	isTold(t, l, 0, unblocked(0), blocked(4), unblocked(5), api.Event{Kind: api.Blocked, Thread: 2, Mode: 77}, blocked(6))
	steps(t, l, 0, 1)
	isTold(t, l, 0, unblocked(0), blocked(4), unblocked(5), blocked(6))
	row(t, l, 0, 0)
	locked(t, l, false)
	steps(t, l, 0, 1)
	is(t, l, 0, api.Handle, -1, unblocked(0), blocked(4), unblocked(5), blocked(6))
}

// P16.2: Upcall: it takes a section to its end while it is locked by that, and others wait for it.
func TestUpcallWhileOthersWait(t *testing.T) {
	l := lib.New(crew(t, 2, does(one(api.Self, 2)), loop()), 3)
	grants(t, l, 0)
	to(t, l, 0, api.Inside)
	grants(t, l, 1, 2)
	steps(t, l, 2, 1)
	isTold(t, l, 2, added)
	preempts(t, l, 0)
	isTold(t, l, 0, cut(api.Inside, 0))
	steps(t, l, 2, 1)
	isTold(t, l, 2, added)
	locked(t, l, true)
	commits(t, l, 0, 0, nothing)
	isTold(t, l, 0)
	row(t, l, 0, 1, 0)
	locked(t, l, false)
	steps(t, l, 2, 1)
	is(t, l, 2, api.Handle, -1, added)
}

// P16.2: of a thread that does not run nothing is done: the step is its commit all the same, with the effect of chapter 10's error.
func TestThreadsThatDoNotRun(t *testing.T) {
	s := space(t, does(spawn(1), pipe(api.Get, 2, 0)), does(one(api.Exit, 0)))
	doesBy(t, s, 0, 2)
	doesBy(t, s, 1, 1)
	for _, thread := range []int{0, 1, 2, 15, 16, 1 << 32, 1<<63 - 1} {
		l := lib.New(s, 2)
		waits(t, l)
		grants(t, l, 1)
		to(t, l, 1, api.Resting)
		tell(t, l, unblocked(thread))
		to(t, l, 1, api.Running)
		records := len(s.Records())
		for range 3 {
			is(t, l, 1, api.Running, thread)
			commits(t, l, 1, thread, nothing)
		}
		tell(t, l, cut(api.Inside, thread))
		isTold(t, l, 1, preempted(thread), cut(api.Inside, thread))
		commits(t, l, 1, thread, nothing)
		isTold(t, l, 1, preempted(thread))
		row(t, l, 1, thread)
		if len(s.Records()) != records {
			t.Fatalf("%d did something", thread)
		}
	}
}

// P16.2: what is handed out of a commit is not what the library has: to write over it changes nothing.
func TestEffectIsTheCallers(t *testing.T) {
	s := crew(t, 2, does(on(api.Unlock, 1), pipe(api.Put, 2, 0), set(2, 1)), does(pipe(api.Get, 2, 0)))
	doesBy(t, s, 1, 1)
	l := insideIn(t, s, 1)
	commits(t, l, 0, 0, nothing)
	commits(t, l, 0, 0, wakes(1)) // commits writes over its list
	isTold(t, l, 0, preempted(0), unblocked(1))
}
