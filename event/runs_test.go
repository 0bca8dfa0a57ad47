package event_test

import (
	"slices"
	"testing"

	"drawknife/api"
)

// sample is an event, and what is to be said of it, written down for each one by hand.
type sample struct {
	e                        api.Event
	hasThread, runs, section bool
}

// samples is one of each sort, and some that differ in little.
func samples() []sample {
	return []sample{
		{e: api.Event{Kind: api.Added, Thread: -1}},
		{e: api.Event{Kind: api.Added, Thread: 1}, hasThread: true},
		{e: api.Event{Kind: api.Blocked, Thread: 1}, hasThread: true},
		{e: api.Event{Kind: api.Blocked, Thread: 0, Mode: api.Inside}, hasThread: true, section: true},
		{e: api.Event{Kind: api.Unblocked, Thread: 0}, hasThread: true, runs: true},
		{e: api.Event{Kind: api.Unblocked, Thread: 1, Mode: -1}, hasThread: true, runs: true},
		{e: api.Event{Kind: api.Unblocked, Thread: 1, Mode: 1}, hasThread: true, section: true},
		{e: api.Event{Kind: api.Unblocked, Thread: -1}},
		{e: api.Event{Kind: api.Preempted, Thread: 1}, hasThread: true, runs: true},
		{e: api.Event{Kind: api.Preempted, Thread: -1}},
		{e: api.Event{Kind: api.Preempted, Thread: -1, Mode: api.Handle}, section: true},
		{e: api.Event{Kind: api.Preempted, Thread: 15, Mode: api.Inside}, hasThread: true, section: true},
		{e: api.Event{Kind: 0, Thread: 1}, hasThread: true},
		{e: api.Event{Kind: 5, Thread: 0, Mode: 9}, hasThread: true, section: true},
	}
}

// bare is the events of samples.
func bare(list []sample) []api.Event {
	var events []api.Event
	for _, s := range list {
		events = append(events, s.e)
	}
	return events
}

// only is the samples of which something is so.
func only(list []sample, so func(sample) bool) []sample {
	return slices.DeleteFunc(slices.Clone(list), func(s sample) bool { return !so(s) })
}

// numbers is the threads of samples.
func numbers(list []sample) []int {
	var threads []int
	for _, s := range list {
		threads = append(threads, s.e.Thread)
	}
	return threads
}

// held asks of a list for all that is written down of its events.
func held(t *testing.T, list []sample) {
	t.Helper()
	events := bare(list)
	hasThreads(t, events, numbers(only(list, func(s sample) bool { return s.hasThread }))...)
	readies(t, events, numbers(only(list, func(s sample) bool { return s.runs }))...)
	keeps(t, events, bare(only(list, func(s sample) bool { return s.runs || s.section }))...)
	if at := slices.IndexFunc(list, func(s sample) bool { return s.section }); at >= 0 {
		hasWithin(t, events, at)
	} else {
		hasNoneWithin(t, events...)
	}
	for at := range len(events) + 1 {
		joins(t, events[:at], events[at:], events...)
	}
}

// P14.1: all lists of up to three events, and of up to six of a few sorts.
func TestAllShortLists(t *testing.T) {
	all := samples()
	few := []sample{all[2], all[4], all[10]}
	for _, c := range []struct {
		from []sample
		most int
	}{{all, 3}, {few, 6}} {
		var grow func([]sample)
		grow = func(list []sample) {
			held(t, list)
			if len(list) < c.most {
				for _, s := range c.from {
					grow(append(slices.Clone(list), s))
				}
			}
		}
		grow(nil)
	}
}

// dice is numbers that come in no order, the same ones each time.
type dice uint64

func (d *dice) below(n int) int {
	*d = *d*6364136223846793005 + 1442695040888963407
	return int(uint64(*d) >> 33 % uint64(n))
}

// P14.1: long lists, of all sorts, and of few within a section.
func TestLongLists(t *testing.T) {
	d, all := dice(14), samples()
	rare := slices.Concat(slices.Repeat(only(all, func(s sample) bool { return !s.section }), 20), only(all, func(s sample) bool { return s.section })[:1])
	for round := range 150 {
		from := all
		if round%2 == 1 {
			from = rare
		}
		var list []sample
		for range d.below(90) {
			list = append(list, from[d.below(len(from))])
		}
		held(t, list)
	}
}

// P14.1: a list has no most.
func TestVeryLongLists(t *testing.T) {
	const many = 100000
	var events, kept []api.Event
	var threads []int
	for n := range many {
		events = append(events, api.Event{Kind: api.Unblocked, Thread: n}, api.Event{Kind: api.Added, Thread: -n - 1})
		kept = append(kept, api.Event{Kind: api.Unblocked, Thread: n})
		threads = append(threads, n)
	}
	hasThreads(t, events, threads...)
	readies(t, events, threads...)
	keeps(t, events, kept...)
	hasNoneWithin(t, events...)
	joins(t, events, kept, slices.Concat(events, kept)...)
	hasWithin(t, append(events, inside4, inPick), len(events))
}
