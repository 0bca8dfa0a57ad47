package vessel_test

import (
	"slices"
	"testing"

	"drawknife/api"
	"drawknife/vessel"
)

// Events of a space, as they may be told: those that count when they are told again, and those that do not.
var (
	unblocked2 = api.Event{Kind: api.Unblocked, Thread: 2}
	unblocked0 = api.Event{Kind: api.Unblocked, Thread: 0}
	taken3     = api.Event{Kind: api.Preempted, Thread: 3}
	inHandle   = api.Event{Kind: api.Preempted, Thread: -1, Mode: api.Handle}
	inPick     = api.Event{Kind: api.Preempted, Thread: -1, Mode: api.Pick}
	inside4    = api.Event{Kind: api.Preempted, Thread: 4, Mode: api.Inside}

	added    = api.Event{Kind: api.Added, Thread: -1}
	blocked2 = api.Event{Kind: api.Blocked, Thread: 2}
	taken    = api.Event{Kind: api.Preempted, Thread: -1}
)

// preempted is an event of what was taken away.
func preempted(thread, mode int) api.Event {
	return api.Event{Kind: api.Preempted, Thread: thread, Mode: mode}
}

// P15.1: a new vessel is to look at its events, all of them, in order, and has nobody's thread.
func TestNew(t *testing.T) {
	news(t)
	news(t, added)
	news(t, added, blocked2, unblocked2)
	news(t, unblocked2, blocked2, added, taken, taken, inside4, inHandle, taken3, added)
	if l := isNew(t, vessel.New([]api.Event{})); len(l) != 0 {
		t.Fatalf("New of an empty list has %v", l)
	}
}

// P15.1: a processor is within a section while it handles, picks, or is inside, whatever its thread and its events are.
func TestHolds(t *testing.T) {
	threads := slices.Concat(someThreads(), noThreads())
	for _, events := range [][]api.Event{nil, {}, {inside4, added}, {unblocked2}} {
		for _, v := range each(slices.Concat(onlySections(), bothOfThem()), threads, events...) {
			if !vessel.Holds(v) {
				t.Fatalf("%v is not within a section", v)
			}
		}
		for _, v := range each(slices.Concat(onlyRun(), otherModes()), threads, events...) {
			if vessel.Holds(v) {
				t.Fatalf("%v is within a section", v)
			}
		}
	}
	if vessel.Holds(vessel.Vessel{}) || vessel.Holds(vessel.New([]api.Event{inHandle})) {
		t.Fatal("what has not begun is within a section")
	}
}

// P15.1: a thread runs, waits to be inside, or is inside: it takes such a mode, and a thread of 0 or above.
func TestRuns(t *testing.T) {
	running := slices.Concat(onlyRun(), bothOfThem())
	for _, events := range [][]api.Event{nil, {}, {inside4, added}, {unblocked2}} {
		for _, v := range each(running, someThreads(), events...) {
			runs(t, v)
		}
		for _, v := range each(running, noThreads(), events...) {
			runsNobody(t, v)
		}
		for _, v := range each(slices.Concat(onlySections(), otherModes()), slices.Concat(someThreads(), noThreads()), events...) {
			runsNobody(t, v)
		}
	}
	runsNobody(t, vessel.Vessel{})
	runsNobody(t, vessel.New([]api.Event{unblocked2, inside4}))
}

// P15.1: what is left of a vessel in each mode: its thread, if that runs, its section, if it is in one, and both in one event, if it is inside.
func TestStrip(t *testing.T) {
	strips(t, vessel.Vessel{Mode: api.Running, Thread: 3}, preempted(3, 0))
	strips(t, vessel.Vessel{Mode: api.Enter, Thread: 0}, preempted(0, 0))
	strips(t, vessel.Vessel{Mode: api.Inside, Thread: 5}, preempted(5, api.Inside))
	strips(t, vessel.Vessel{Mode: api.Handle, Thread: -1}, preempted(-1, api.Handle))
	strips(t, vessel.Vessel{Mode: api.Pick, Thread: -1}, preempted(-1, api.Pick))
	for _, mode := range []int{api.Off, api.Upcall, api.Seek, api.Resting} {
		strips(t, vessel.Vessel{Mode: mode, Thread: -1})
	}
}

// P15.1: a thread that does not run is lost nowhere, and is not told; one below 0 is told as -1.
func TestStripOfOddThreads(t *testing.T) {
	strips(t, vessel.Vessel{Mode: api.Handle, Thread: 6}, preempted(-1, api.Handle))
	strips(t, vessel.Vessel{Mode: api.Pick, Thread: 0}, preempted(-1, api.Pick))
	strips(t, vessel.Vessel{Mode: api.Handle, Thread: -9}, preempted(-1, api.Handle))
	strips(t, vessel.Vessel{Mode: api.Inside, Thread: -9}, preempted(-1, api.Inside))
	strips(t, vessel.Vessel{Mode: api.Running, Thread: -1})
	strips(t, vessel.Vessel{Mode: api.Enter, Thread: -9})
	strips(t, vessel.Vessel{Mode: api.Seek, Thread: 6})
	strips(t, vessel.Vessel{Mode: api.Resting, Thread: 0})
	strips(t, vessel.Vessel{})
}

// P15.1: of its events those stay that count, in order, behind what it was in itself.
func TestStripOfEvents(t *testing.T) {
	all := []api.Event{added, inside4, blocked2, unblocked2, taken, taken3, added, inHandle, unblocked0, unblocked2}
	kept := []api.Event{inside4, unblocked2, taken3, inHandle, unblocked0, unblocked2}
	strips(t, vessel.Vessel{Mode: api.Upcall, Thread: -1, Events: all}, kept...)
	strips(t, vessel.Vessel{Mode: api.Off, Thread: 0, Events: all}, kept...)
	strips(t, vessel.Vessel{Mode: api.Seek, Thread: -1, Events: all}, kept...)
	strips(t, vessel.Vessel{Mode: api.Handle, Thread: -1, Events: all}, append([]api.Event{preempted(-1, api.Handle)}, kept...)...)
	strips(t, vessel.Vessel{Mode: api.Running, Thread: 2, Events: all}, append([]api.Event{preempted(2, 0)}, kept...)...)
	strips(t, vessel.Vessel{Mode: api.Inside, Thread: 4, Events: all}, append([]api.Event{inside4}, kept...)...)
	strips(t, vessel.Vessel{Mode: api.Upcall, Thread: -1, Events: []api.Event{added, blocked2, taken}})
	strips(t, vessel.Vessel{Mode: api.Pick, Thread: -1, Events: []api.Event{added, blocked2, taken}}, inPick)
	strips(t, vessel.Vessel{Mode: api.Enter, Thread: 1, Events: []api.Event{}}, preempted(1, 0))
}

// P15.1: each mode with each thread, at their ends and beside the bounds.
func TestStripOfEachVessel(t *testing.T) {
	events := []api.Event{added, unblocked0, blocked2, inPick}
	left := func(v vessel.Vessel, first ...api.Event) {
		t.Helper()
		strips(t, v, append(slices.Clone(first), unblocked0, inPick)...)
	}
	for _, v := range each(onlyRun(), someThreads(), events...) {
		left(v, preempted(v.Thread, 0))
	}
	for _, v := range each(bothOfThem(), someThreads(), events...) {
		left(v, preempted(v.Thread, v.Mode))
	}
	for _, v := range slices.Concat(each(onlySections(), someThreads(), events...), each(slices.Concat(onlySections(), bothOfThem()), noThreads(), events...)) {
		left(v, preempted(-1, v.Mode))
	}
	for _, v := range slices.Concat(each(onlyRun(), noThreads(), events...), each(otherModes(), slices.Concat(someThreads(), noThreads()), events...)) {
		left(v)
	}
}

// P15.1: a vessel that is told more is a new one, with what is left of it, and then all that is more, also what would not be left.
func TestTold(t *testing.T) {
	isTold(t, vessel.Vessel{Mode: api.Running, Thread: 3}, []api.Event{unblocked2}, taken3, unblocked2)
	isTold(t, vessel.Vessel{Mode: api.Inside, Thread: 4, Events: []api.Event{blocked2, unblocked0}}, []api.Event{added, blocked2, taken}, inside4, unblocked0, added, blocked2, taken)
	isTold(t, vessel.Vessel{Mode: api.Handle, Thread: -1, Events: []api.Event{unblocked0, added, inPick}}, []api.Event{inHandle, unblocked0}, inHandle, unblocked0, inPick, inHandle, unblocked0)
	isTold(t, vessel.Vessel{Mode: api.Upcall, Thread: -1, Events: []api.Event{added, unblocked2}}, []api.Event{unblocked0, added}, unblocked2, unblocked0, added)
	isTold(t, vessel.Vessel{Mode: api.Resting, Thread: -1}, []api.Event{unblocked0}, unblocked0)
	isTold(t, vessel.Vessel{}, []api.Event{added}, added)
}

// P15.1: where nothing more is told, what is left is all; where nothing is left, what is more is.
func TestToldNothing(t *testing.T) {
	for _, none := range [][]api.Event{nil, {}} {
		isTold(t, vessel.Vessel{Mode: api.Pick, Thread: -1, Events: []api.Event{added, taken3}}, none, inPick, taken3)
		isTold(t, vessel.Vessel{Mode: api.Enter, Thread: 3, Events: none}, none, taken3)
		isTold(t, vessel.Vessel{Mode: api.Seek, Thread: 3, Events: none}, none)
		isTold(t, vessel.Vessel{Mode: api.Seek, Thread: 3, Events: none}, []api.Event{added, taken}, added, taken)
	}
}

// P15.1: a vessel that is told something twice holds nothing any more: what it was in is told once.
func TestToldTwice(t *testing.T) {
	v := vessel.Vessel{Mode: api.Inside, Thread: 4, Events: []api.Event{added}}
	v = vessel.Told(v, []api.Event{blocked2, unblocked0})
	isTold(t, v, []api.Event{added}, inside4, unblocked0, added)
	v = vessel.Told(v, []api.Event{added})
	isTold(t, v, nil, inside4, unblocked0)
}

// P15.1 with R4: a vessel may be told a part of its own events, and of the list that they are a part of.
func TestToldOfItsOwn(t *testing.T) {
	list := []api.Event{unblocked2, added, taken3, inPick, blocked2}
	kept := [][]api.Event{nil, {unblocked2}, {unblocked2}, {unblocked2, taken3}, {unblocked2, taken3, inPick}, {unblocked2, taken3, inPick}}
	for at := range len(list) + 1 {
		l := roomy(list)
		v := vessel.Vessel{Mode: api.Running, Thread: 3, Events: l[:at]}
		behind, again := vessel.Told(v, l[at:]), vessel.Told(v, l[:at])
		first := append([]api.Event{taken3}, kept[at]...)
		if !slices.Equal(behind.Events, slices.Concat(first, list[at:])) || !slices.Equal(again.Events, slices.Concat(first, list[:at])) {
			t.Fatalf("at %d: %v and %v", at, behind, again)
		}
		untouched(t, l, list)
		overwrite(behind.Events)
		overwrite(again.Events)
		overwrite(vessel.Strip(v))
		overwrite(vessel.New(v.Events).Events)
		untouched(t, l, list)
	}
}
