package event_test

import (
	"math"
	"slices"
	"testing"

	"drawknife/api"
	"drawknife/event"
)

// spare is what stands in the spare room of a list that is handed in, and dust what all is written over with later. Both would be told by every call, were they taken for events of a list.
var (
	spare = api.Event{Kind: api.Preempted, Thread: 7001, Mode: -7001}
	dust  = api.Event{Kind: api.Preempted, Thread: 7002, Mode: 7002}
)

// roomy is a list with spare room behind it.
func roomy(list []api.Event) []api.Event {
	l := slices.Repeat([]api.Event{spare}, len(list)+3)
	copy(l, list)
	return l[:len(list)]
}

// untouched asks that a list, with its spare room, is as roomy made it.
func untouched(t *testing.T, l, list []api.Event) {
	t.Helper()
	room := l[len(l):cap(l)]
	if !slices.Equal(l, list) || !slices.Equal(room, slices.Repeat([]api.Event{spare}, len(room))) {
		t.Fatalf("what was handed in, %v, is %v with room %v", list, l, room)
	}
}

// overwrite writes over a list and its spare room.
func overwrite[T any](l []T, x T) {
	for k := range l[:cap(l)] {
		l[:cap(l)][k] = x
	}
}

// asked is what a call answers to lists. It is asked twice: one answer is then written over, and so is what was handed in; neither may touch anything else.
func asked[T any](t *testing.T, x T, call func(lists ...[]api.Event) []T, lists ...[]api.Event) []T {
	t.Helper()
	var handed [][]api.Event
	for _, list := range lists {
		handed = append(handed, roomy(list))
	}
	all := func() {
		t.Helper()
		for k, list := range lists {
			untouched(t, handed[k], list)
		}
	}
	one, other := call(handed...), call(handed...)
	all()
	overwrite(one, x)
	all()
	for _, l := range handed {
		overwrite(l, dust)
	}
	return other
}

// joins asks for what Join answers.
func joins(t *testing.T, a, b []api.Event, wanted ...api.Event) {
	t.Helper()
	call := func(lists ...[]api.Event) []api.Event { return event.Join(lists[0], lists[1]) }
	if l := asked(t, dust, call, a, b); !slices.Equal(l, wanted) {
		t.Fatalf("Join(%v, %v) is %v, not %v", a, b, l, wanted)
	}
}

// hasThreads asks for what Threads answers.
func hasThreads(t *testing.T, list []api.Event, wanted ...int) {
	t.Helper()
	call := func(lists ...[]api.Event) []int { return event.Threads(lists[0]) }
	if l := asked(t, -7003, call, list); !slices.Equal(l, wanted) {
		t.Fatalf("Threads(%v) is %v, not %v", list, l, wanted)
	}
}

// readies asks for what Ready answers.
func readies(t *testing.T, list []api.Event, wanted ...int) {
	t.Helper()
	call := func(lists ...[]api.Event) []int { return event.Ready(lists[0]) }
	if l := asked(t, -7003, call, list); !slices.Equal(l, wanted) {
		t.Fatalf("Ready(%v) is %v, not %v", list, l, wanted)
	}
}

// keeps asks for what Keep answers.
func keeps(t *testing.T, list []api.Event, wanted ...api.Event) {
	t.Helper()
	call := func(lists ...[]api.Event) []api.Event { return event.Keep(lists[0]) }
	if l := asked(t, dust, call, list); !slices.Equal(l, wanted) {
		t.Fatalf("Keep(%v) is %v, not %v", list, l, wanted)
	}
}

// within asks for what Within answers; where there is none, wanted is no event, and others is all of the list.
func within(t *testing.T, list []api.Event, wanted api.Event, others []api.Event, there bool) {
	t.Helper()
	call := func(lists ...[]api.Event) []api.Event {
		e, l, ok := event.Within(lists[0])
		if e != wanted || ok != there {
			t.Fatalf("Within(%v) is %v, %t; not %v, %t", list, e, ok, wanted, there)
		}
		return l
	}
	if l := asked(t, dust, call, list); !slices.Equal(l, others) {
		t.Fatalf("Within(%v) leaves %v, not %v", list, l, others)
	}
}

// hasWithin asks that the event at a place is the first one within a section.
func hasWithin(t *testing.T, list []api.Event, at int) {
	t.Helper()
	within(t, list, list[at], slices.Delete(slices.Clone(list), at, at+1), true)
}

// hasNoneWithin asks that there is none.
func hasNoneWithin(t *testing.T, list ...api.Event) {
	t.Helper()
	within(t, list, api.Event{}, list, false)
}

// runs asks that an event lets its thread run.
func runs(t *testing.T, e api.Event) {
	t.Helper()
	if thread, ok := event.Runs(e); thread != e.Thread || !ok {
		t.Fatalf("Runs(%v) is %d, %t; not %d, true", e, thread, ok, e.Thread)
	}
}

// runsNobody asks that it lets nobody run.
func runsNobody(t *testing.T, e api.Event) {
	t.Helper()
	if thread, ok := event.Runs(e); thread != 0 || ok {
		t.Fatalf("Runs(%v) is %d, %t; not 0, false", e, thread, ok)
	}
}

// Numbers are told apart by what is to be said of an event that has them; with each there are ends, and such as are others when half of them is lost.
func someThreads() []int  { return []int{0, 1, 2, 15, 16, 1 << 32, math.MaxInt - 1, math.MaxInt} }
func noThreads() []int    { return []int{math.MinInt, math.MinInt + 1, -1 << 32, -1<<32 + 5, -2, -1} }
func sections() []int     { return []int{1, 2, 4, 5, 7, 8, 9, 1 << 32, 1<<33 - 1, math.MaxInt} }
func noSections() []int   { return []int{math.MinInt, -1 << 32, -1<<32 + 2, -7, -2, -1, 0} }
func kindsThatRun() []int { return []int{api.Unblocked, api.Preempted} }
func otherKinds() []int {
	return []int{math.MinInt, -1<<32 + 3, -4, -3, -1, 0, api.Added, api.Blocked, 5, 6, 7, 256 + 3, 256 + 4, 1<<32 + 3, 1<<32 + 4, math.MaxInt}
}

// each is all events of such kinds, threads and modes.
func each(kinds, threads, modes []int) []api.Event {
	var list []api.Event
	for _, kind := range kinds {
		for _, thread := range threads {
			for _, mode := range modes {
				list = append(list, api.Event{Kind: kind, Thread: thread, Mode: mode})
			}
		}
	}
	return list
}
