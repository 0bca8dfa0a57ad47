package place_test

import (
	"math"
	"slices"
	"testing"

	"drawknife/api"
	"drawknife/kern"
	"drawknife/place"
)

// P21.1: who may run from the beginning on waits to be told of, as long as the space has no processor.
func TestOfWaking(t *testing.T) {
	k := begin(t, 3, crew(2), crew(1))
	for space := range 2 {
		is(t, k, space, 0, inWaking())
		is(t, k, space, 1)
	}
	gives(t, k, 1, 2)
	is(t, k, 0, 0, inWaking())
	is(t, k, 1, 0, inEvent(2))
	takes(t, k, 2)
	is(t, k, 1, 0, inWaking())
}

// P21.1: one thread on its way through all modes of a processor, from the event on to where it runs, waits for a section, and is in it.
func TestOfOnTheWay(t *testing.T) {
	k, _ := given(t, 3, crew(2), 1)
	way := []struct {
		mode  int
		place api.Place
	}{
		{api.Upcall, inEvent(1)}, {api.Handle, inEvent(1)}, {api.Handle, inEvent(1)}, {api.Handle, inDeque(1)},
		{api.Seek, inDeque(1)}, {api.Pick, inDeque(1)}, {api.Running, onProc(1)}, {api.Enter, onProc(1)}, {api.Inside, onProc(1)},
		{api.Running, onProc(1)}, {api.Running, onProc(1)},
	}
	for n, x := range way {
		if m := mode(k, 1); m != x.mode {
			t.Fatalf("at %d it is in %d, not %d", n, m, x.mode)
		}
		is(t, k, 0, 0, x.place)
		if n < 9 {
			is(t, k, 0, 1)
		} else {
			is(t, k, 0, 1, inDeque(1))
		}
		is(t, k, 0, -1)
		steps(t, k, 1, 1)
	}
}

// P21.1: what is left of each mode, when the processor is told anew, is taken, and given again.
func TestOfTakenAway(t *testing.T) {
	for count := range 11 {
		k, _ := given(t, 3, crew(2), 1)
		steps(t, k, 1, count)
		m := mode(k, 1)
		waits := count > 2 && count < 6 // in a row, in which it stays
		asks := func(event api.Place) {
			t.Helper()
			if waits {
				is(t, k, 0, 0, inDeque(1))
			} else {
				is(t, k, 0, 0, event)
			}
			if m == api.Handle || m == api.Pick { // nobody was within that section
				is(t, k, 0, -1, event)
			} else {
				is(t, k, 0, -1)
			}
			right(t, k)
		}
		preempts(t, k, 1)
		asks(inEvent(1))
		takes(t, k, 1)
		asks(inWaking())
		gives(t, k, 0, 2)
		asks(inEvent(2))
	}
}

// lets: does an event let a thread run, or has it, with a Mode above 0?
func lets(e api.Event, slot int) bool {
	return e.Thread == slot && (e.Mode > 0 || slot >= 0 && (e.Kind == api.Unblocked || e.Kind == api.Preempted))
}

// asksOfEvent asks where some threads are that an event may be of, in a space in which thread 0 is let run ahead of that.
func asksOfEvent(t *testing.T, k *kern.Kern, e api.Event, at api.Place) {
	t.Helper()
	for _, slot := range []int{e.Thread, -e.Thread, e.Thread + 1, e.Thread + 1<<32, -1, 0, 1} {
		var wanted []api.Place
		if slot == 0 {
			wanted = append(wanted, at)
		}
		if lets(e, slot) {
			wanted = append(wanted, at)
		}
		is(t, k, 0, slot, wanted...)
	}
}

// P21.1: events of any kind, thread and mode, while they wait, and when a processor is told them.
func TestOfEachEvent(t *testing.T) {
	numbers := []int{-2, -1, 0, 1, 2, 3, 4, 5, 7, 8, 9, 15, 16, math.MinInt, math.MaxInt, 1 << 32, 1<<32 + 3, -1 << 32}
	p := crew(1)
	for _, kind := range numbers {
		for _, mode := range numbers {
			for _, thread := range numbers {
				e := event(kind, thread, mode)
				k := begin(t, 2, p)
				k.Lib(0).Tell([]api.Event{e})
				asksOfEvent(t, k, e, inWaking())
				gives(t, k, 0, 1)
				asksOfEvent(t, k, e, inEvent(1))
			}
		}
	}
}

// P21.1: what lets nobody run, or has another one, is no place of thread 0, which a call may answer beside a false.
func TestOfZero(t *testing.T) {
	k, l := given(t, 2, program(does(reg(api.Sleep, 2), set(1, 1), reg(api.Sleep, 1))), 1)
	commits(t, k, 1, 3) // it sleeps
	is(t, k, 0, 0)
	l.Tell([]api.Event{event(api.Added, 0, 0), event(api.Blocked, 0, 0), unblocked(-1), preempted(1), cut(api.Inside, 1), cut(api.Handle, -1), {}})
	is(t, k, 0, 0)
	is(t, k, 0, 1, inEvent(1), inEvent(1))
	takes(t, k, 1)
	is(t, k, 0, 0)
	is(t, k, 0, 1, inWaking(), inWaking())
}

// P21.1: one place for each event, and for each processor, rising, whatever they are in; then the row, be that a lesser one's; then what waits.
func TestOfOrder(t *testing.T) {
	k, l := given(t, 5, crew(1), 4)
	l.Tell([]api.Event{event(api.Blocked, 0, 0), unblocked(0), cut(api.Inside, 0), unblocked(3)})
	is(t, k, 0, 0, inEvent(4), inEvent(4), inEvent(4))
	adds(t, l, 2, 0)
	gives(t, k, 0, 2)
	to(t, k, 2, api.Running)
	is(t, k, 0, 0, onProc(2), inEvent(4), inEvent(4), inEvent(4))
	gives(t, k, 0, 1)
	l.Tell([]api.Event{cut(api.Enter, 0)})
	is(t, k, 0, 0, inEvent(1), onProc(2), inEvent(4), inEvent(4), inEvent(4))
	adds(t, l, 0, 0)
	is(t, k, 0, 0, inEvent(1), onProc(2), inEvent(4), inEvent(4), inEvent(4), inDeque(0))
	is(t, k, 0, 3, inEvent(4))
	takes(t, k, 1, 4, 2) // on the way 2 was told, which had run it
	is(t, k, 0, 0, inDeque(0), inWaking(), inWaking(), inWaking(), inWaking(), inWaking())
	gives(t, k, 0, 3)
	is(t, k, 0, 0, inEvent(3), inEvent(3), inEvent(3), inEvent(3), inEvent(3), inDeque(0))
}

// P21.1: several processors that run one thread, in the order of their numbers, in whatever order they came.
func TestOfSeveralRun(t *testing.T) {
	k, l := given(t, 64, crew(1), 63)
	to(t, k, 63, api.Running)
	for _, p := range []int{7, 40, 0} {
		gives(t, k, 0, p)
		adds(t, l, p, 0)
		to(t, k, p, api.Running)
	}
	is(t, k, 0, 0, onProc(0), onProc(7), onProc(40), onProc(63))
	takes(t, k, 40)
	is(t, k, 0, 0, inEvent(0), inEvent(0), onProc(7), onProc(63))
}

// P21.1: a row is one also where the space has not its processor.
func TestOfRows(t *testing.T) {
	k, l := given(t, 64, crew(1), 5)
	for _, row := range []int{0, 4, 6, 63} {
		adds(t, l, row, 100+row, 200+row)
		is(t, k, 0, 100+row, inDeque(row))
		is(t, k, 0, 200+row, inDeque(row))
		is(t, k, 0, 300+row)
	}
	takes(t, k, 5)
	is(t, k, 0, 206, inDeque(6))
	picks(t, l, 6, 106)
	is(t, k, 0, 106)
	is(t, k, 0, 206, inDeque(6))
}

// P21.1: a space has its threads alone: where those of another one are is nothing to it.
func TestOfEachSpace(t *testing.T) {
	k := begin(t, 3, crew(2), crew(2), crew(2))
	gives(t, k, 1, 0)
	gives(t, k, 2, 2)
	commits(t, k, 2, 1)
	for range 2 {
		is(t, k, 0, 0, inWaking())
		is(t, k, 0, 1)
		is(t, k, 1, 0, inEvent(0))
		is(t, k, 1, 1)
		is(t, k, 2, 0, onProc(2))
		is(t, k, 2, 1, inDeque(2))
	}
}

// P21.1: none of a space that there is not, whoever the thread would be.
func TestOfNoSpace(t *testing.T) {
	for count := 1; count <= api.MaxSpaces; count++ {
		k := begin(t, 2, loops(count)...)
		gives(t, k, 0, 0)
		for space := range count {
			k.Lib(space).Tell([]api.Event{cut(api.Handle, -1)})
		}
		for _, space := range append(ends(), count, count+1, 8, 9, 64) {
			for _, slot := range []int{0, 1, -1, 99} {
				is(t, k, space, slot)
			}
		}
		for space := range count {
			is(t, k, space+1<<32, 0)
			is(t, k, space+math.MinInt, 0)
			if len(place.Of(k, space, 0)) != 1 {
				t.Fatalf("of %d spaces %d is none", count, space)
			}
		}
	}
}

// P21.1: a slot is looked for as the number that it is: such as are none are found where they are, and nowhere else.
func TestOfNumbers(t *testing.T) {
	for _, n := range append(ends(), 0, 1, 15, 16, 17, 63, 64, 99) {
		k, l := given(t, 2, program(does()), 0)
		commits(t, k, 0, 1) // it is at its end
		is(t, k, 0, n)
		adds(t, l, 1, n)
		asksAround(t, k, n, inDeque(1))
		picks(t, l, 1, n)
		asksAround(t, k, n)
		l.Tell([]api.Event{cut(api.Pick, n)})
		asksAround(t, k, n, inEvent(0))
		takes(t, k, 0)
		asksAround(t, k, n, inWaking())
	}
}

// asksAround asks where a number is, and that those which are like it are nowhere.
func asksAround(t *testing.T, k *kern.Kern, n int, wanted ...api.Place) {
	t.Helper()
	is(t, k, 0, n, wanted...)
	for _, other := range []int{n + 1, n - 1, n ^ 1<<32, n ^ math.MinInt, n ^ 1<<8, n ^ 1<<16, n ^ 1<<4, ^n} {
		is(t, k, 0, other)
	}
}

// P21.1: a processor that runs what is below 0 runs nobody (chapter 15); one that runs a number which is no slot runs that.
func TestOfRunsNobody(t *testing.T) {
	for _, n := range append(ends(), 5, 16, 99) {
		k, l := given(t, 2, program(does()), 0)
		commits(t, k, 0, 1)
		to(t, k, 0, api.Resting)
		adds(t, l, 0, n)
		to(t, k, 0, api.Running)
		if n < 0 {
			asksAround(t, k, n)
		} else {
			asksAround(t, k, n, onProc(0))
		}
	}
}

// P21.1: the processors are those that the space's library has, whoever is their owner.
func TestOfBehindTheKernel(t *testing.T) {
	k := begin(t, 2, crew(1), crew(1))
	gives(t, k, 0, 0)
	grants(t, k.Lib(1), 0)
	is(t, k, 0, 0, inEvent(0))
	is(t, k, 1, 0, inEvent(0))
	revokes(t, k.Lib(0), 0)
	is(t, k, 0, 0, inWaking())
	is(t, k, 1, 0, inEvent(0))
	grants(t, k.Lib(0), 1)
	is(t, k, 0, 0, inEvent(1))
}

// P21.1: of a nil kernel, and of one that New did not make, nothing.
func TestOfNothing(t *testing.T) {
	for _, k := range []*kern.Kern{nil, {}} {
		for _, space := range append(ends(), 0, 1) {
			for _, slot := range append(ends(), 0, 1) {
				is(t, k, space, slot)
			}
		}
	}
}

// P21.1: what is asked leaves all as it is, and answers share nothing.
func TestOfLeavesAll(t *testing.T) {
	k, l := given(t, 4, crew(3), 1, 2)
	steps(t, k, 1, 13)
	l.Tell([]api.Event{unblocked(0), cut(api.Handle, -1), unblocked(0), unblocked(0)})
	ahead := shows(k)
	a, b := place.Of(k, 0, 0), place.Of(k, 0, 0)
	for n := range a[:cap(a)] {
		a[:cap(a)][n] = api.Place{}
	}
	if c := place.Of(k, 0, 0); len(b) < 3 || !slices.Equal(b, c) {
		t.Fatalf("it is in %+v, then in %+v", b, c)
	}
	for slot := range 20 {
		place.Of(k, 0, slot)
		place.Right(k)
	}
	if now := shows(k); !slices.Equal(now, ahead) {
		t.Fatalf("there came to be %d, not %d", now, ahead)
	}
}
