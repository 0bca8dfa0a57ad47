package vessel_test

import (
	"math"
	"slices"
	"testing"

	"drawknife/api"
	"drawknife/vessel"
)

// spare is what stands in the spare room of a list that is handed in, and dust what all is written over with later. Both would be kept by every call, were they taken for events of a list.
var (
	spare = api.Event{Kind: api.Preempted, Thread: 7001, Mode: 7001}
	dust  = api.Event{Kind: api.Preempted, Thread: 7002, Mode: 7002}
)

// roomy is a list with spare room behind it.
func roomy(list []api.Event) []api.Event {
	l := slices.Repeat([]api.Event{spare}, len(list)+4)
	copy(l, list)
	return l[:len(list)]
}

// untouched asks that a list, with its spare room, is as roomy made it.
func untouched(t *testing.T, l, list []api.Event) {
	t.Helper()
	room := l[len(l):cap(l)]
	if !slices.Equal(l, list) || !slices.Equal(room, slices.Repeat([]api.Event{spare}, len(room))) {
		t.Fatalf("what was handed in, %v, is %v with room %v", list, l, room)
	}
}

// overwrite writes over a list and its spare room.
func overwrite(l []api.Event) {
	for k := range l[:cap(l)] {
		l[:cap(l)][k] = dust
	}
}

// asked is what a call answers to lists. It is asked twice: one answer is then written over, and so is what was handed in; neither may touch anything else.
func asked(t *testing.T, call func(lists ...[]api.Event) []api.Event, lists ...[]api.Event) []api.Event {
	t.Helper()
	var handed [][]api.Event
	for _, list := range lists {
		handed = append(handed, roomy(list))
	}
	all := func() {
		t.Helper()
		for k, list := range lists {
			untouched(t, handed[k], list)
		}
	}
	one, other := call(handed...), call(handed...)
	all()
	overwrite(one)
	all()
	for _, l := range handed {
		overwrite(l)
	}
	return other
}

// isNew asks that a vessel is one that was just told something, and is its events.
func isNew(t *testing.T, v vessel.Vessel) []api.Event {
	t.Helper()
	if v.Mode != api.Upcall || v.Thread != -1 {
		t.Fatalf("%v is no new vessel", v)
	}
	return v.Events
}

// news asks that New of events has just these.
func news(t *testing.T, list ...api.Event) {
	t.Helper()
	call := func(lists ...[]api.Event) []api.Event { return isNew(t, vessel.New(lists[0])) }
	if l := asked(t, call, list); !slices.Equal(l, list) {
		t.Fatalf("New(%v) has %v", list, l)
	}
}

// strips asks for what Strip leaves of a vessel.
func strips(t *testing.T, v vessel.Vessel, wanted ...api.Event) {
	t.Helper()
	call := func(lists ...[]api.Event) []api.Event {
		return vessel.Strip(vessel.Vessel{Mode: v.Mode, Thread: v.Thread, Events: lists[0]})
	}
	if l := asked(t, call, v.Events); !slices.Equal(l, wanted) {
		t.Fatalf("Strip(%v) is %v, not %v", v, l, wanted)
	}
}

// isTold asks for the events of a vessel that is told more.
func isTold(t *testing.T, v vessel.Vessel, more []api.Event, wanted ...api.Event) {
	t.Helper()
	call := func(lists ...[]api.Event) []api.Event {
		return isNew(t, vessel.Told(vessel.Vessel{Mode: v.Mode, Thread: v.Thread, Events: lists[0]}, lists[1]))
	}
	if l := asked(t, call, v.Events, more); !slices.Equal(l, wanted) {
		t.Fatalf("Told(%v, %v) has %v, not %v", v, more, l, wanted)
	}
}

// runs asks that a vessel runs its thread.
func runs(t *testing.T, v vessel.Vessel) {
	t.Helper()
	if thread, ok := vessel.Runs(v); thread != v.Thread || !ok {
		t.Fatalf("Runs(%v) is %d, %t; not %d, true", v, thread, ok, v.Thread)
	}
}

// runsNobody asks that it runs none.
func runsNobody(t *testing.T, v vessel.Vessel) {
	t.Helper()
	if thread, ok := vessel.Runs(v); thread != 0 || ok {
		t.Fatalf("Runs(%v) is %d, %t; not 0, false", v, thread, ok)
	}
}

// Numbers are told apart by what is to be said of a vessel that has them; with each there are ends, and such as are others when half of them is lost.
func someThreads() []int {
	return []int{0, 1, 2, 15, 16, 1 << 32, 1<<32 - 1, math.MaxInt - 1, math.MaxInt}
}
func noThreads() []int {
	return []int{math.MinInt, math.MinInt + 1, -1 << 32, -1<<32 + 5, -2, -1}
}

// Modes, by whether they are within a section, and whether they run a thread.
func onlySections() []int { return []int{api.Handle, api.Pick} }
func onlyRun() []int      { return []int{api.Running, api.Enter} }
func bothOfThem() []int   { return []int{api.Inside} }
func otherModes() []int {
	list := []int{api.Off, api.Upcall, api.Seek, api.Resting, math.MinInt, math.MaxInt, -1, 9, 10, 16}
	for mode := range 9 {
		if mode > 0 {
			list = append(list, -mode)
		}
		list = append(list, mode+1<<8, mode+1<<32, mode-1<<32, mode+math.MinInt)
	}
	return list
}

// each is all vessels of such modes and threads, which were told the same.
func each(modes, threads []int, events ...api.Event) []vessel.Vessel {
	var list []vessel.Vessel
	for _, mode := range modes {
		for _, thread := range threads {
			list = append(list, vessel.Vessel{Mode: mode, Thread: thread, Events: events})
		}
	}
	return list
}
