package vessel_test

import (
	"slices"
	"testing"

	"drawknife/api"
	"drawknife/vessel"
)

// sample is a vessel without events, and what is left of it, written down for each one by hand.
type sample struct {
	v    vessel.Vessel
	left []api.Event
}

// samples is a vessel in each mode, with a thread and without.
func samples() []sample {
	return []sample{
		{v: vessel.Vessel{Mode: 0, Thread: 0}},
		{v: vessel.Vessel{Mode: 0, Thread: -1}},
		{v: vessel.Vessel{Mode: 1, Thread: 1}},
		{v: vessel.Vessel{Mode: 1, Thread: -1}},
		{v: vessel.Vessel{Mode: 2, Thread: 2}, left: []api.Event{{Kind: 4, Thread: -1, Mode: 2}}},
		{v: vessel.Vessel{Mode: 2, Thread: -1}, left: []api.Event{{Kind: 4, Thread: -1, Mode: 2}}},
		{v: vessel.Vessel{Mode: 3, Thread: 3}},
		{v: vessel.Vessel{Mode: 3, Thread: -1}},
		{v: vessel.Vessel{Mode: 4, Thread: 0}, left: []api.Event{{Kind: 4, Thread: -1, Mode: 4}}},
		{v: vessel.Vessel{Mode: 4, Thread: -2}, left: []api.Event{{Kind: 4, Thread: -1, Mode: 4}}},
		{v: vessel.Vessel{Mode: 5, Thread: 5}, left: []api.Event{{Kind: 4, Thread: 5}}},
		{v: vessel.Vessel{Mode: 5, Thread: -1}},
		{v: vessel.Vessel{Mode: 6, Thread: 0}, left: []api.Event{{Kind: 4, Thread: 0}}},
		{v: vessel.Vessel{Mode: 6, Thread: -1}},
		{v: vessel.Vessel{Mode: 7, Thread: 15}, left: []api.Event{{Kind: 4, Thread: 15, Mode: 7}}},
		{v: vessel.Vessel{Mode: 7, Thread: -1}, left: []api.Event{{Kind: 4, Thread: -1, Mode: 7}}},
		{v: vessel.Vessel{Mode: 8, Thread: 8}},
		{v: vessel.Vessel{Mode: 8, Thread: -1}},
		{v: vessel.Vessel{Mode: 9, Thread: 0}},
		{v: vessel.Vessel{Mode: -1, Thread: 0}},
	}
}

// sort is an event, and whether it counts when it is told again, written down for each one by hand.
type sort struct {
	e      api.Event
	counts bool
}

// sorts is one of each sort, and some that differ in little.
func sorts() []sort {
	return []sort{
		{e: api.Event{Kind: api.Added, Thread: -1}},
		{e: api.Event{Kind: api.Added, Thread: 1}},
		{e: api.Event{Kind: api.Blocked, Thread: 1}},
		{e: api.Event{Kind: api.Blocked, Thread: 0, Mode: api.Inside}, counts: true},
		{e: api.Event{Kind: api.Unblocked, Thread: 0}, counts: true},
		{e: api.Event{Kind: api.Unblocked, Thread: 1, Mode: -1}, counts: true},
		{e: api.Event{Kind: api.Unblocked, Thread: -1}},
		{e: api.Event{Kind: api.Preempted, Thread: 1}, counts: true},
		{e: api.Event{Kind: api.Preempted, Thread: -1}},
		{e: api.Event{Kind: api.Preempted, Thread: -1, Mode: api.Handle}, counts: true},
		{e: api.Event{Kind: api.Preempted, Thread: 15, Mode: api.Inside}, counts: true},
		{e: api.Event{Kind: 5, Thread: 1}},
	}
}

// bare is the events of sorts, and counted those that count.
func bare(list []sort) (all, counted []api.Event) {
	for _, s := range list {
		all = append(all, s.e)
		if s.counts {
			counted = append(counted, s.e)
		}
	}
	return all, counted
}

// held asks of a vessel with events for all that is written down of them.
func held(t *testing.T, s sample, list []sort, more []api.Event) {
	t.Helper()
	all, counted := bare(list)
	v := s.v
	v.Events = all
	left := slices.Concat(s.left, counted)
	strips(t, v, left...)
	isTold(t, v, more, slices.Concat(left, more)...)
	if len(s.left) > 0 && s.left[0].Thread >= 0 {
		runs(t, v)
	} else {
		runsNobody(t, v)
	}
	if holds := len(s.left) > 0 && s.left[0].Mode > 0; vessel.Holds(v) != holds {
		t.Fatalf("Holds(%v) is not %t", v, holds)
	}
}

// P15.1: all vessels of all modes with all lists of up to two events, told nothing and told something.
func TestAllShortVessels(t *testing.T) {
	lists := [][]sort{nil}
	for _, a := range sorts() {
		lists = append(lists, []sort{a})
		for _, b := range sorts() {
			lists = append(lists, []sort{a, b})
		}
	}
	for _, s := range samples() {
		for _, list := range lists {
			all, _ := bare(list)
			news(t, all...)
			held(t, s, list, nil)
			held(t, s, list, []api.Event{added, unblocked0, taken})
		}
	}
}

// dice is numbers that come in no order, the same ones each time.
type dice uint64

func (d *dice) below(n int) int {
	*d = *d*6364136223846793005 + 1442695040888963407
	return int(uint64(*d) >> 33 % uint64(n))
}

// some is up to so many of any sorts.
func (d *dice) some(most int) []sort {
	all := sorts()
	var list []sort
	for range d.below(most + 1) {
		list = append(list, all[d.below(len(all))])
	}
	return list
}

// P15.1: long lists, of all sorts.
func TestLongLists(t *testing.T) {
	d, vessels := dice(15), samples()
	for range 300 {
		list := d.some(70)
		more, _ := bare(d.some(70))
		held(t, vessels[d.below(len(vessels))], list, more)
	}
}

// P15.1: a processor that is told more and more, without a look at it, keeps all that counts, and what it was in stands first.
func TestToldOnAndOn(t *testing.T) {
	d := dice(151)
	for _, s := range samples() {
		v := s.v
		left := slices.Clone(s.left)
		for range 40 {
			all, counted := bare(d.some(6))
			v = vessel.Told(v, all)
			if !slices.Equal(isNew(t, v), slices.Concat(left, all)) {
				t.Fatalf("%v, not %v and %v", v, left, all)
			}
			left = append(left, counted...)
		}
	}
}

// P15.1: a list has no most.
func TestVeryLongLists(t *testing.T) {
	const many = 100000
	var events, kept []api.Event
	for n := range many {
		events = append(events, api.Event{Kind: api.Unblocked, Thread: n}, api.Event{Kind: api.Blocked, Thread: n})
		kept = append(kept, api.Event{Kind: api.Unblocked, Thread: n})
	}
	news(t, events...)
	v := vessel.Vessel{Mode: api.Inside, Thread: 4, Events: events}
	strips(t, v, slices.Concat([]api.Event{inside4}, kept)...)
	isTold(t, v, events, slices.Concat([]api.Event{inside4}, kept, events)...)
}
