package lib_test

import (
	"math"
	"testing"

	"drawknife/api"
	"drawknife/core"
	"drawknife/lib"
)

// loop is a function that goes on for ever, by plain instructions.
func loop() []api.Instr { return does(set(2, 5), on(api.Jump, 0)) }

// crew is a space of so many threads that all may run: the first one has begun the others, and does the first code next.
func crew(t *testing.T, count int, first []api.Instr, others ...[]api.Instr) *core.Space {
	t.Helper()
	var begins []api.Instr
	for k := range count - 1 {
		begins = append(begins, spawn(uint64(1+min(k, len(others)-1))))
	}
	s := space(t, append([][]api.Instr{append(begins, first...)}, others...)...)
	doesBy(t, s, 0, count-1)
	return s
}

// P16.1: New: as many processors as there may be, rows for each, none that it has.
func TestHowManyProcessors(t *testing.T) {
	counts := []struct{ asked, are int }{
		{math.MinInt, 0}, {math.MinInt + 3, 0}, {-1 << 32, 0}, {-1<<32 + 3, 0}, {-64, 0}, {-1, 0}, {0, 0}, {1, 1}, {2, 2}, {3, 3},
		{63, 63}, {64, 64}, {65, 64}, {128, 64}, {1 << 32, 64}, {1<<32 + 1, 64}, {math.MaxInt, 64},
	}
	for _, c := range counts {
		l := begin(t, c.asked, loop())
		had(t, l)
		locked(t, l, false)
		var all []int
		for proc := range 70 {
			hasNot(t, l, proc)
			wanted := proc < c.are
			if l.Grant(proc) != wanted || l.Rows().Add(proc, proc) != wanted {
				t.Fatalf("of %d there is %d: not %t", c.asked, proc, wanted)
			}
			if wanted {
				all = append(all, proc)
			}
			had(t, l, all...)
		}
		for _, proc := range noProcs(c.are) {
			if l.Grant(proc) {
				t.Fatalf("of %d there is %d", c.asked, proc)
			}
			hasNot(t, l, proc)
		}
		had(t, l, all...)
	}
}

// P16.1: New: an Unblocked of each thread that may run waits, rising; of one that is blocked or has ended none.
func TestNewTellsOfWhoMayRun(t *testing.T) {
	waits(t, begin(t, 1, loop()), unblocked(0))
	waits(t, lib.New(crew(t, 4, loop(), loop()), 0), unblocked(0), unblocked(1), unblocked(2), unblocked(3))

	s := crew(t, 6, loop(), does(pipe(api.Get, 2, 0)), does(one(api.Exit, 0)), loop())
	doesBy(t, s, 1, 1)
	doesBy(t, s, 2, 1)
	l := lib.New(s, 2)
	waits(t, l, unblocked(0), unblocked(3), unblocked(4), unblocked(5))
	locked(t, l, false)
	had(t, l)

	s = crew(t, 16, loop(), loop())
	l = lib.New(s, 2)
	grants(t, l, 1)
	list := events(added)
	for slot := range 16 {
		list = append(list, unblocked(slot))
	}
	isTold(t, l, 1, list...)

	s = space(t, does(one(api.Exit, 0)))
	doesBy(t, s, 0, 1)
	waits(t, lib.New(s, 1))
}

// P16.1: New: the space and the rows are handed out as they are, and are not another library's.
func TestSpaceAndRowsAreTheThingsThemselves(t *testing.T) {
	s := space(t, loop())
	l, other := lib.New(s, 2), lib.New(s, 2)
	if l.Space() != s || other.Space() != s || l.Rows() == nil || l.Rows() != l.Rows() || l.Rows() == other.Rows() {
		t.Fatal("Space or Rows is another one")
	}
	comes(t, l.Rows(), 1, 9, 8)
	row(t, l, 1, 9, 8)
	row(t, other, 1)
	grants(t, l, 0)
	hasNot(t, other, 0)
	waits(t, other, unblocked(0))
}

// P16.1: Grant: a new vessel, with Added and all that waits, once.
func TestGrant(t *testing.T) {
	l := begin(t, 4, loop())
	tell(t, l, blocked(3), cut(api.Pick, -1))
	waits(t, l, unblocked(0), blocked(3), cut(api.Pick, -1))
	grants(t, l, 2)
	isTold(t, l, 2, added, unblocked(0), blocked(3), cut(api.Pick, -1))
	waits(t, l)
	had(t, l, 2)
	if l.Grant(2) {
		t.Fatal("Grant(2) again is true")
	}
	isTold(t, l, 2, added, unblocked(0), blocked(3), cut(api.Pick, -1))
	grants(t, l, 0, 3)
	isTold(t, l, 0, added)
	isTold(t, l, 3, added)
	isTold(t, l, 2, added, unblocked(0), blocked(3), cut(api.Pick, -1))
	had(t, l, 0, 2, 3)
	hasNot(t, l, 1)
	locked(t, l, false)
}

// P16.1: Grant again is false whatever the processor is in, and changes nothing.
func TestGrantOfWhatItHas(t *testing.T) {
	for _, s := range stations() {
		l := s.reach(t)
		before, _ := l.Look(1)
		if l.Grant(1) {
			t.Fatalf("Grant in %d is true", s.mode)
		}
		is(t, l, 1, before.Mode, before.Thread, before.Events...)
		had(t, l, 1)
	}
}

// P16.1: what comes again is new: it has nothing of what it was in ahead.
func TestGrantBehindRevoke(t *testing.T) {
	l := begin(t, 2, loop())
	for range 3 {
		grants(t, l, 1)
		to(t, l, 1, api.Running)
		revokes(t, l, 1)
		had(t, l)
		hasNot(t, l, 1)
		waits(t, l, preempted(0))
	}
	grants(t, l, 0)
	isTold(t, l, 0, added, preempted(0))
	waits(t, l)
}

// station is something that processor 1 of a space may be in, after so many steps, and what is left of it, written down by hand.
type station struct {
	nobody bool // the space has no thread
	steps  int
	mode   int
	locked bool
	left   []api.Event
}

// stations is all modes, and all that a processor is in on the way from one to another.
func stations() []station {
	return []station{
		{steps: 0, mode: api.Upcall, left: events(unblocked(0))},
		{steps: 1, mode: api.Handle, locked: true, left: events(cut(api.Handle, -1), unblocked(0))},
		{steps: 2, mode: api.Handle, locked: true, left: events(cut(api.Handle, -1), unblocked(0))},
		{steps: 3, mode: api.Handle, locked: true, left: events(cut(api.Handle, -1))},
		{steps: 4, mode: api.Seek},
		{steps: 5, mode: api.Pick, locked: true, left: events(cut(api.Pick, -1))},
		{steps: 6, mode: api.Running, left: events(preempted(0))},
		{steps: 7, mode: api.Enter, left: events(preempted(0))},
		{steps: 8, mode: api.Inside, locked: true, left: events(cut(api.Inside, 0))},
		{steps: 9, mode: api.Running, left: events(preempted(0))},
		{nobody: true, steps: 0, mode: api.Upcall},
		{nobody: true, steps: 1, mode: api.Handle, locked: true, left: events(cut(api.Handle, -1))},
		{nobody: true, steps: 5, mode: api.Resting},
	}
}

// reach is a library of three processors, of which 1 is in that.
func (s station) reach(t *testing.T) *lib.Lib {
	t.Helper()
	l := begin(t, 3, does(one(api.Self, 2), set(2, 5), on(api.Jump, 0)))
	if s.nobody {
		l = lib.New(nil, 3)
	}
	grants(t, l, 1)
	for range s.steps {
		l.Step(1, 0)
	}
	if v, _ := l.Look(1); v.Mode != s.mode || l.Locked() != s.locked {
		t.Fatalf("%d steps lead to %+v, %t; not to %d, %t", s.steps, v, l.Locked(), s.mode, s.locked)
	}
	return l
}

// with is what is left, and more behind it.
func (s station) with(more ...api.Event) []api.Event { return append(events(s.left...), more...) }

// P16.1: Revoke: what is left waits, if there is no other processor, behind nothing or more; a section stays on its way.
func TestRevokeOfTheOnlyOne(t *testing.T) {
	for _, s := range stations() {
		l := s.reach(t)
		revokes(t, l, 1)
		hasNot(t, l, 0, 1, 2)
		had(t, l)
		waits(t, l, s.left...)
		locked(t, l, s.locked)
		tell(t, l, blocked(3))
		waits(t, l, s.with(blocked(3))...)
		grants(t, l, 1)
		isTold(t, l, 1, append(events(added), s.with(blocked(3))...)...)
		locked(t, l, s.locked)
	}
}

// P16.1: Revoke: what is left is told to the least one that it has then, be that a lesser or a greater one; of nothing that is left none is told.
func TestRevokeTellsTheLeast(t *testing.T) {
	for _, s := range stations() {
		for _, others := range [][]int{{0}, {2}, {0, 2}, {2, 0}} {
			l := s.reach(t)
			grants(t, l, others...)
			least := min(others[0], others[len(others)-1])
			revokes(t, l, 1)
			hasNot(t, l, 1)
			waits(t, l)
			locked(t, l, s.locked)
			if len(s.left) == 0 {
				isTold(t, l, least, added)
			} else {
				isTold(t, l, least, s.left...)
			}
			if len(others) == 2 {
				isTold(t, l, 2, added)
				had(t, l, 0, 2)
			} else {
				had(t, l, others...)
			}
		}
	}
}

// P16.1: Revoke: to be told strips the least one, whatever it is in; to be told of nothing leaves it as it is.
func TestRevokeStripsTheLeast(t *testing.T) {
	for _, s := range stations() {
		l := s.reach(t)
		grants(t, l, 2)
		tell(t, l) // of none nothing is done
		before, _ := l.Look(1)
		revokes(t, l, 2) // of Added nothing is left
		is(t, l, 1, before.Mode, before.Thread, before.Events...)
		locked(t, l, s.locked)
	}
	l := lib.New(crew(t, 2, loop(), loop()), 3)
	grants(t, l, 2)
	to(t, l, 2, api.Running)
	grants(t, l, 1)
	to(t, l, 1, api.Running)
	is(t, l, 1, api.Running, 1)
	revokes(t, l, 2)
	isTold(t, l, 1, preempted(1), preempted(0))
	had(t, l, 1)
}

// P16.1: Preempt: what is left of it, and nothing more; it keeps the processor, and a section stays on its way.
func TestPreempt(t *testing.T) {
	for _, s := range stations() {
		l := s.reach(t)
		grants(t, l, 0)
		for range 2 { // the second time nothing is left but what was told
			preempts(t, l, 1)
			isTold(t, l, 1, s.left...)
			isTold(t, l, 0, added)
			had(t, l, 0, 1)
			waits(t, l)
			locked(t, l, s.locked)
		}
		hasNot(t, l, 2)
	}
}

// P16.1: Tell: the only processor, whatever it is in, is told; a section stays on its way.
func TestTellEachMode(t *testing.T) {
	for _, s := range stations() {
		l := s.reach(t)
		tell(t, l, blocked(3), unblocked(5), blocked(3))
		isTold(t, l, 1, s.with(blocked(3), unblocked(5), blocked(3))...)
		waits(t, l)
		locked(t, l, s.locked)
		tell(t, l, added) // what does not count goes when more is told
		isTold(t, l, 1, s.with(unblocked(5), added)...)
	}
}

// P16.1: Tell of none: nothing is done, neither of a nil list nor of an empty one.
func TestTellNothing(t *testing.T) {
	for _, s := range stations() {
		l := s.reach(t)
		before, _ := l.Look(1)
		l.Tell(nil)
		l.Tell([]api.Event{})
		tell(t, l)
		is(t, l, 1, before.Mode, before.Thread, before.Events...)
		waits(t, l)
		locked(t, l, s.locked)
	}
	l := begin(t, 1, loop())
	tell(t, l)
	waits(t, l, unblocked(0))
}

// P16.1: Tell: the least processor is told, and it alone.
func TestTellTheLeast(t *testing.T) {
	l := lib.New(nil, 64)
	grants(t, l, 63)
	tell(t, l, unblocked(1))
	isTold(t, l, 63, unblocked(1))
	grants(t, l, 40)
	tell(t, l, unblocked(2))
	isTold(t, l, 40, unblocked(2))
	isTold(t, l, 63, unblocked(1))
	grants(t, l, 0, 41)
	tell(t, l, unblocked(3))
	isTold(t, l, 0, unblocked(3))
	revokes(t, l, 0)
	isTold(t, l, 40, unblocked(2), unblocked(3))
	isTold(t, l, 41, added)
	isTold(t, l, 63, unblocked(1))
	revokes(t, l, 40)
	isTold(t, l, 41, unblocked(2), unblocked(3))
	revokes(t, l, 41, 63)
	waits(t, l, unblocked(1), unblocked(2), unblocked(3))
}

// P16.1: Tell: what waits, waits in order, whatever it is, also what nobody will look at.
func TestTellWithoutProcessors(t *testing.T) {
	l := lib.New(nil, 2)
	waits(t, l)
	list := events(added, blocked(1), blocked(1), unblocked(2), cut(api.Inside, 3), api.Event{}, api.Event{Kind: math.MinInt, Thread: math.MaxInt, Mode: -1}, unblocked(-1))
	for k := range list {
		tell(t, l, list[k])
		waits(t, l, list[:k+1]...)
	}
	tell(t, l, list...)
	waits(t, l, append(events(list...), list...)...)
	grants(t, l, 0)
	isTold(t, l, 0, append(append(events(added), list...), list...)...)
}

// isNothing asks that a library has nothing, and that nothing comes of any call.
func isNothing(t *testing.T, l *lib.Lib) {
	t.Helper()
	for _, proc := range append(ends(), noProcs(3)...) {
		if l.Grant(proc) {
			t.Fatalf("Grant(%d) is true", proc)
		}
		hasNot(t, l, proc)
	}
	had(t, l)
	locked(t, l, false)
	if l.Rows() != nil || l.Space() != nil {
		t.Fatal("it has rows, or a space")
	}
}

// P16.1 and P16.2: a nil library: false, nothing, ErrIdle.
func TestNil(t *testing.T) {
	isNothing(t, nil)
	tell(t, nil, unblocked(0))
	waits(t, nil)
	isNothing(t, nil)
}

// P16.1: a library that nobody made has no processors.
func TestUnmade(t *testing.T) {
	l := new(lib.Lib)
	isNothing(t, l)
	waits(t, l)
	tell(t, l, unblocked(0))
	waits(t, l, unblocked(0))
	isNothing(t, l)
}

// P16.1 and P16.2: a space that there is not has no threads; its library goes on without.
func TestNoSpace(t *testing.T) {
	l := lib.New(nil, 2)
	if l.Space() != nil {
		t.Fatal("it has a space")
	}
	waits(t, l)
	grants(t, l, 0)
	for _, mode := range []int{api.Handle, api.Handle, api.Seek, api.Pick, api.Resting, api.Resting} {
		steps(t, l, 0, 1)
		if v, _ := l.Look(0); v.Mode != mode {
			t.Fatalf("%+v is not in %d", v, mode)
		}
	}
}
