package place_test

import (
	"testing"

	"drawknife/api"
	"drawknife/kern"
	"drawknife/lib"
	"drawknife/place"
)

// P21.2: false of nil; a kernel that New did not make has nothing that could be wrong.
func TestRightOfNothing(t *testing.T) {
	if place.Right(nil) {
		t.Error("nil is right")
	}
	right(t, new(kern.Kern))
}

// P21.2: it is right from the beginning on, of each number of spaces, and while processors come and go.
func TestRightOfNew(t *testing.T) {
	for count := 1; count <= api.MaxSpaces; count++ {
		for _, procs := range []int{1, 2, 5, api.MaxProcs} {
			k := begin(t, procs, loops(count)...)
			right(t, k)
			for p := range procs {
				gives(t, k, p%count, p)
				right(t, k)
			}
			for p := range procs {
				to(t, k, p, api.Seek)
				right(t, k)
			}
			for p := range procs {
				takes(t, k, p)
				right(t, k)
			}
		}
	}
}

// threads are where each of some that may run is: on a processor, in a row, in an event; it is right.
func threads(t *testing.T) (*kern.Kern, *lib.Lib) {
	t.Helper()
	k, l := given(t, 4, crew(3), 1)
	commits(t, k, 1, 2)
	gives(t, k, 0, 2)
	to(t, k, 2, api.Running)
	preempts(t, k, 2)
	is(t, k, 0, 0, onProc(1))
	is(t, k, 0, 1, inDeque(1))
	is(t, k, 0, 2, inEvent(2)) // it was taken from the row's other end
	is(t, k, 0, 3)
	right(t, k)
	return k, l
}

// P21.2: a thread that may run is to be somewhere.
func TestRightNowhere(t *testing.T) {
	k, l := threads(t)
	picks(t, l, 1, 1)
	is(t, k, 0, 1)
	wrong(t, k)
	adds(t, l, 3, 1)
	right(t, k)
}

// P21.2: each of as many threads as there may be is to be somewhere, the first and the last too.
func TestRightNowhereOfAll(t *testing.T) {
	k, l := given(t, 1, crew(api.MaxThreads), 0)
	commits(t, k, 0, api.MaxThreads-1)
	preempts(t, k, 0)
	to(t, k, 0, api.Pick)
	right(t, k)
	for slot := 1; slot < api.MaxThreads; slot++ {
		picks(t, l, 0, slot)
		wrong(t, k)
		adds(t, l, 0, slot)
		right(t, k)
	}
	picks(t, l, 0, 0)
	wrong(t, k)
}

// P21.2: a thread that may run is to be in one place: not in one of another kind beside it, and not in another one of the same kind.
func TestRightTwice(t *testing.T) {
	beside := []func(*lib.Lib, int){
		func(l *lib.Lib, slot int) { l.Tell([]api.Event{unblocked(slot)}) },
		func(l *lib.Lib, slot int) { l.Tell([]api.Event{preempted(slot)}) },
		func(l *lib.Lib, slot int) { l.Tell([]api.Event{cut(api.Inside, slot)}) },
		func(l *lib.Lib, slot int) { l.Rows().Add(0, slot) },
	}
	for n, add := range beside {
		for slot := range 3 {
			if n == 3 && slot == 1 {
				continue // it is in a row already
			}
			k, l := threads(t)
			add(l, slot)
			if list := place.Of(k, 0, slot); len(list) != 2 {
				t.Fatalf("%d is in %+v", slot, list)
			}
			wrong(t, k)
			takes(t, k, 1, 2) // then it waits twice, or in a row
			wrong(t, k)
		}
	}
}

// P21.2: two processors that run one thread are one too many.
func TestRightTwiceRun(t *testing.T) {
	k, l := threads(t)
	adds(t, l, 3, 0)
	gives(t, k, 0, 3)
	wrong(t, k)
	to(t, k, 3, api.Running)
	is(t, k, 0, 0, onProc(1), onProc(3))
	wrong(t, k)
}

// P21.2: a slot that no thread has is to be nowhere, the last one too; numbers that are no slots may be anywhere.
func TestRightNobody(t *testing.T) {
	for _, slot := range append(ends(), 3, 4, 14, 15, 16, 17, 31, 99) {
		asks := wrong
		if slot < 0 || slot > 15 {
			asks = right
		}
		k, l := threads(t)
		l.Tell([]api.Event{event(api.Blocked, slot, 0), event(api.Added, slot, 0)})
		right(t, k)
		adds(t, l, 3, slot)
		asks(t, k)
		gives(t, k, 0, 3)
		to(t, k, 3, api.Running)
		asks(t, k)
		for _, e := range []api.Event{unblocked(slot), preempted(slot), cut(api.Handle, slot), event(77, slot, 77)} {
			k, l := threads(t)
			l.Tell([]api.Event{e})
			asks(t, k)
			takes(t, k, 1, 2)
			asks(t, k)
		}
	}
}

// P21.2: a thread that is blocked is to be nowhere, as long as it is; behind that it is told of.
func TestRightBlocked(t *testing.T) {
	p := program(does(set(1, 2), reg(api.Sleep, 1), two(api.Read, 2, 3), on(api.Down, 0)))
	k, l := given(t, 1, p, 0)
	asks := func() {
		t.Helper()
		is(t, k, 0, 0)
		right(t, k)
		l.Tell([]api.Event{unblocked(0)})
		wrong(t, k)
		takes(t, k, 0)
		wrong(t, k)
		gives(t, k, 0, 0)
		to(t, k, 0, api.Seek)
		is(t, k, 0, 0, inDeque(0))
		wrong(t, k)
		picks(t, l, 0, 0)
		right(t, k)
	}
	commits(t, k, 0, 2)
	asks()
	k.Tick()
	asks()
	k.Tick()
	is(t, k, 0, 0, inEvent(0))
	right(t, k)
	commits(t, k, 0, 1)
	asks()
	k.Done(0, 0)
	is(t, k, 0, 0, inEvent(0))
	right(t, k)
	commits(t, k, 0, 1)
	asks()
}

// P21.2: one that is at its end is to be nowhere, also one that nobody has joined yet.
func TestRightFinished(t *testing.T) {
	k, l := given(t, 1, program(does(spawn(1), on(api.Jump, 1)), does()), 0)
	commits(t, k, 0, 1)
	preempts(t, k, 0)
	commits(t, k, 0, 1) // it is 1's, which was in the row first
	if v, _ := l.Space().Look(1); v.Why != api.Finished {
		t.Fatalf("1 is %+v", v)
	}
	is(t, k, 0, 1)
	right(t, k)
	adds(t, l, 0, 1)
	wrong(t, k)
}

// P21.2: who may run is what the space says: what is done to it past the library is not told.
func TestRightPastTheLibrary(t *testing.T) {
	k, l := given(t, 1, program(does(set(1, 1), reg(api.Sleep, 1))), 0)
	for range 2 {
		right(t, k)
		if _, e := l.Space().Run(0, 0); e != api.OK {
			t.Fatalf("Run is %d", e)
		}
	}
	is(t, k, 0, 0, inEvent(0)) // though it sleeps
	wrong(t, k)
	l.Space().Tick()
	right(t, k)

	k, l = given(t, 1, program(does(set(1, 1), reg(api.Sleep, 1))), 0)
	commits(t, k, 0, 2)
	right(t, k)
	l.Space().Tick()
	is(t, k, 0, 0)
	wrong(t, k)
	l.Tell([]api.Event{unblocked(0)})
	right(t, k)
}

// P21.2: one fault in one space of several is enough, in whichever it is.
func TestRightEachSpace(t *testing.T) {
	for count := 1; count <= api.MaxSpaces; count++ {
		for at := range count {
			k := begin(t, 2, loops(count)...)
			gives(t, k, at, 1)
			right(t, k)
			k.Lib(at).Tell([]api.Event{unblocked(1)})
			wrong(t, k)

			k = begin(t, 2, loops(count)...)
			k.Lib(at).Tell([]api.Event{unblocked(0)})
			wrong(t, k)

			k = begin(t, 2, loops(count)...)
			grants(t, k.Lib(at), 1)
			wrong(t, k)
			revokes(t, k.Lib(at), 1)
			right(t, k)
		}
	}
}

// P21.2: a processor that its owner's library has not is not right; nor one that another one has beside it.
func TestRightOwners(t *testing.T) {
	for _, p := range []int{0, 1, 31, 62, 63} {
		k := begin(t, api.MaxProcs, loops(3)...)
		gives(t, k, 1, p)
		right(t, k)
		for _, other := range []int{0, 2} {
			grants(t, k.Lib(other), p)
			wrong(t, k)
			revokes(t, k.Lib(1), p)
			wrong(t, k) // now just the other one has it
			revokes(t, k.Lib(other), p)
			wrong(t, k) // now nobody has
			grants(t, k.Lib(1), p)
			right(t, k)
		}
	}
}

// P21.2: a processor that is free is to be had by nobody.
func TestRightFree(t *testing.T) {
	for _, p := range []int{0, 1, 31, 62, 63} {
		for space := range 3 {
			k := begin(t, api.MaxProcs, loops(3)...)
			grants(t, k.Lib(space), p)
			wrong(t, k)
			revokes(t, k.Lib(space), p)
			right(t, k)
			gives(t, k, space, p)
			right(t, k)
			takes(t, k, p)
			right(t, k)
			grants(t, k.Lib(space), p)
			wrong(t, k)
			if e := k.Give(p, space); e != api.OK {
				t.Fatalf("Give is %d", e)
			}
			right(t, k) // now the kernel has it so, too
		}
	}
}

// P21.2: spaces that have each other's processors are not right, though each has as many as it owns.
func TestRightSwapped(t *testing.T) {
	k := begin(t, 2, loops(2)...)
	gives(t, k, 0, 0)
	gives(t, k, 1, 1)
	right(t, k)
	revokes(t, k.Lib(0), 0)
	revokes(t, k.Lib(1), 1)
	grants(t, k.Lib(0), 1)
	grants(t, k.Lib(1), 0)
	is(t, k, 0, 0, inEvent(1))
	is(t, k, 1, 0, inEvent(0))
	wrong(t, k)
}
