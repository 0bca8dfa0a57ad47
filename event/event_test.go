package event_test

import (
	"slices"
	"testing"

	"drawknife/api"
	"drawknife/event"
)

// Events of a space, as they may be told.
var (
	added      = api.Event{Kind: api.Added, Thread: -1}
	blocked2   = api.Event{Kind: api.Blocked, Thread: 2}
	unblocked2 = api.Event{Kind: api.Unblocked, Thread: 2}
	unblocked0 = api.Event{Kind: api.Unblocked, Thread: 0}
	taken      = api.Event{Kind: api.Preempted, Thread: -1}
	taken3     = api.Event{Kind: api.Preempted, Thread: 3}
	inHandle   = api.Event{Kind: api.Preempted, Thread: -1, Mode: api.Handle}
	inPick     = api.Event{Kind: api.Preempted, Thread: -1, Mode: api.Pick}
	inside4    = api.Event{Kind: api.Preempted, Thread: 4, Mode: api.Inside}
)

// P14.1: a's events stand first, then b's, each list in its order, and none is left out for being there already.
func TestJoin(t *testing.T) {
	joins(t, []api.Event{added}, []api.Event{blocked2}, added, blocked2)
	joins(t, []api.Event{blocked2}, []api.Event{added}, blocked2, added)
	joins(t, []api.Event{taken3, added, inside4}, []api.Event{unblocked2, blocked2}, taken3, added, inside4, unblocked2, blocked2)
	joins(t, []api.Event{added, added}, []api.Event{added, blocked2, added}, added, added, added, blocked2, added)
}

// P14.1: of what is nil or empty there is nothing in it.
func TestJoinOfNothing(t *testing.T) {
	two := []api.Event{inside4, added}
	for _, none := range [][]api.Event{nil, {}} {
		joins(t, two, none, two...)
		joins(t, none, two, two...)
		joins(t, none, none)
	}
}

// P14.1 with R4: the lists may be parts of one, and one may be both.
func TestJoinOfParts(t *testing.T) {
	list := []api.Event{added, blocked2, unblocked2, inHandle, taken3}
	for at := range len(list) + 1 {
		l := roomy(list)
		ahead := event.Join(l[:at], l[at:])
		twice := event.Join(l[:at], l[:at])
		turned := event.Join(l[at:], l[:at])
		untouched(t, l, list)
		for _, joined := range []struct{ is, wanted []api.Event }{
			{ahead, list},
			{twice, slices.Concat(list[:at], list[:at])},
			{turned, slices.Concat(list[at:], list[:at])},
		} {
			if !slices.Equal(joined.is, joined.wanted) {
				t.Fatalf("at %d: %v, not %v", at, joined.is, joined.wanted)
			}
		}
		overwrite(ahead, dust)
		overwrite(twice, dust)
		overwrite(turned, dust)
		untouched(t, l, list)
	}
}

// P14.1: the threads of all events that have one, also of those that let nobody run, in order, and as often as they are there.
func TestThreads(t *testing.T) {
	hasThreads(t, []api.Event{added, blocked2, unblocked2, inHandle, taken3, inside4}, 2, 2, 3, 4)
	hasThreads(t, []api.Event{inside4, taken3, unblocked0, blocked2, inside4}, 4, 3, 0, 2, 4)
	hasThreads(t, []api.Event{added, inHandle, taken})
	hasThreads(t, nil)
	hasThreads(t, []api.Event{})
}

// P14.1: whether an event has a thread hangs on its Thread alone: 0 or above.
func TestThreadsOfEachEvent(t *testing.T) {
	kinds, modes := slices.Concat(kindsThatRun(), otherKinds()), slices.Concat(sections(), noSections())
	for _, e := range each(kinds, someThreads(), modes) {
		hasThreads(t, []api.Event{e}, e.Thread)
		hasThreads(t, []api.Event{added, e, taken3}, e.Thread, 3)
	}
	for _, e := range each(kinds, noThreads(), modes) {
		hasThreads(t, []api.Event{e})
		hasThreads(t, []api.Event{blocked2, e, taken3}, 2, 3)
	}
}

// P14.1: the first one with a Mode above 0 goes, wherever it stands; the others keep their order, also others with such a Mode, and also one that is the same.
func TestWithin(t *testing.T) {
	hasWithin(t, []api.Event{inHandle}, 0)
	hasWithin(t, []api.Event{inHandle, added, blocked2}, 0)
	hasWithin(t, []api.Event{added, inHandle, blocked2}, 1)
	hasWithin(t, []api.Event{added, blocked2, inHandle}, 2)
	hasWithin(t, []api.Event{added, inHandle, taken3, inside4, blocked2}, 1)
	hasWithin(t, []api.Event{added, inside4, taken3, inHandle, inPick}, 1)
	hasWithin(t, []api.Event{taken, inPick, inPick, added, inPick}, 1)
	hasWithin(t, []api.Event{inside4, inside4}, 0)
}

// P14.1: where there is none, all of the list is what is left, and no event is told.
func TestWithinOfNone(t *testing.T) {
	hasNoneWithin(t)
	within(t, []api.Event{}, api.Event{}, nil, false)
	hasNoneWithin(t, added)
	hasNoneWithin(t, taken3, added, taken3, unblocked2, blocked2)
}

// P14.1: whether an event is one within hangs on its Mode alone: above 0.
func TestWithinOfEachEvent(t *testing.T) {
	kinds, threads := slices.Concat(kindsThatRun(), otherKinds()), slices.Concat(someThreads(), noThreads())
	for _, e := range each(kinds, threads, sections()) {
		hasWithin(t, []api.Event{e}, 0)
		hasWithin(t, []api.Event{taken3, e, inside4, e}, 1)
	}
	for _, e := range each(kinds, threads, noSections()) {
		hasNoneWithin(t, e)
		hasNoneWithin(t, added, e, taken3)
		hasWithin(t, []api.Event{taken3, e, inside4, e}, 2)
	}
}

// P14.1: a thread that goes on, or whose processor was taken away, runs.
func TestRuns(t *testing.T) {
	for _, e := range []api.Event{unblocked2, unblocked0, taken3} {
		runs(t, e)
	}
	for _, e := range []api.Event{{}, added, blocked2, taken, inHandle, inPick, inside4, {Kind: api.Unblocked, Thread: -2}} {
		runsNobody(t, e)
	}
}

// P14.1: it takes all three: one of the two kinds, a Mode that is not above 0, and a Thread of 0 or above.
func TestRunsOfEachEvent(t *testing.T) {
	threads, modes := slices.Concat(someThreads(), noThreads()), slices.Concat(sections(), noSections())
	for _, e := range each(kindsThatRun(), someThreads(), noSections()) {
		runs(t, e)
	}
	for _, list := range [][]api.Event{
		each(otherKinds(), threads, modes),
		each(kindsThatRun(), threads, sections()),
		each(kindsThatRun(), noThreads(), modes),
	} {
		for _, e := range list {
			runsNobody(t, e)
		}
	}
}

// P14.1: the threads that run, in order, and as often as they are there.
func TestReady(t *testing.T) {
	readies(t, []api.Event{added, blocked2, unblocked2, inHandle, taken3, inside4}, 2, 3)
	readies(t, []api.Event{taken3, inside4, unblocked0, taken, taken3, unblocked2}, 3, 0, 3, 2)
	readies(t, []api.Event{added, blocked2, inside4, taken})
	readies(t, nil)
	readies(t, []api.Event{})
}

// P14.1: what Ready tells of one event is what Runs tells.
func TestReadyOfEachEvent(t *testing.T) {
	threads, modes := slices.Concat(someThreads(), noThreads()), slices.Concat(sections(), noSections())
	for _, e := range each(slices.Concat(kindsThatRun(), otherKinds()), threads, modes) {
		if thread, ok := event.Runs(e); ok {
			readies(t, []api.Event{e}, thread)
			readies(t, []api.Event{unblocked2, e, taken3}, 2, thread, 3)
		} else {
			readies(t, []api.Event{e})
			readies(t, []api.Event{unblocked2, e, taken3}, 2, 3)
		}
	}
}

// P14.1: what lets a thread run stays, and what is within a section, whole and in order.
func TestKeep(t *testing.T) {
	keeps(t, []api.Event{added, blocked2, unblocked2, inHandle, taken3, inside4}, unblocked2, inHandle, taken3, inside4)
	keeps(t, []api.Event{inside4, added, unblocked0, taken, inside4, inPick, blocked2, unblocked0}, inside4, unblocked0, inside4, inPick, unblocked0)
	keeps(t, []api.Event{added, blocked2, taken})
	keeps(t, []api.Event{inHandle, taken3}, inHandle, taken3)
	keeps(t, nil)
	keeps(t, []api.Event{})
}

// P14.1: of whatever kind, with whatever thread: with a Mode above 0 it stays; without one it takes a thread that runs.
func TestKeepOfEachEvent(t *testing.T) {
	kinds, threads := slices.Concat(kindsThatRun(), otherKinds()), slices.Concat(someThreads(), noThreads())
	stay := slices.Concat(each(kinds, threads, sections()), each(kindsThatRun(), someThreads(), noSections()))
	for _, e := range stay {
		keeps(t, []api.Event{e}, e)
		keeps(t, []api.Event{added, e, taken, taken3, e}, e, taken3, e)
	}
	leave := slices.Concat(each(otherKinds(), threads, noSections()), each(kindsThatRun(), noThreads(), noSections()))
	for _, e := range leave {
		keeps(t, []api.Event{e})
		keeps(t, []api.Event{inPick, e, unblocked2, e}, inPick, unblocked2)
	}
}
