package share_test

import (
	"math"
	"slices"
	"testing"

	"drawknife/api"
	"drawknife/share"
)

// P12.1: one processor at a time, round and round.
func TestRoundAndRound(t *testing.T) {
	shares(t, 1, []int{9, 9, 9}, []int{0, 0, 0}, 0, 1, 0, 0)
	shares(t, 2, []int{9, 9, 9}, []int{0, 0, 0}, 0, 1, 1, 0)
	shares(t, 3, []int{9, 9, 9}, []int{0, 0, 0}, 0, 1, 1, 1)
	shares(t, 4, []int{9, 9, 9}, []int{0, 0, 0}, 0, 2, 1, 1)
	shares(t, 5, []int{9, 9, 9}, []int{0, 0, 0}, 0, 2, 2, 1)
	shares(t, 6, []int{9}, []int{3}, 0, 6)
	shares(t, 64, times(8, 64), times(8, 2), 5, times(8, 8)...)
	shares(t, 63, times(8, 64), times(8, 2), 5, 8, 8, 8, 8, 7, 8, 8, 8)
}

// P12.1: only those share that have fewer than their demand.
func TestWhoHasEnoughIsLeftOut(t *testing.T) {
	shares(t, 7, []int{1, 9, 2}, []int{0, 0, 0}, 0, 1, 4, 2)
	shares(t, 4, []int{1, 9, 9}, []int{0, 0, 0}, 0, 1, 2, 1)
	shares(t, 5, []int{0, 9, 0, 9}, []int{0, 0, 0, 0}, 0, 0, 3, 0, 2)
	shares(t, 10, []int{5, 1, 3}, []int{4, 4, 4}, 1, 5, 1, 3)
	shares(t, 6, []int{5, 1, 3}, []int{4, 4, 4}, 1, 2, 1, 3)
	shares(t, 6, []int{5, 1, 3}, []int{4, 4, 4}, 0, 3, 1, 2)
}

// P12.1: until nothing is left, or all have what they want.
func TestItEnds(t *testing.T) {
	shares(t, 9, []int{1, 2, 2}, []int{0, 0, 0}, 0, 1, 2, 2)
	shares(t, 5, []int{1, 2, 2}, []int{0, 0, 0}, 0, 1, 2, 2)
	shares(t, 64, []int{1, 2, 3}, []int{0, 7, 4}, 2, 1, 2, 3)
	shares(t, 0, []int{1, 2, 3}, []int{0, 7, 4}, 2, 0, 0, 0)
	shares(t, 64, []int{0, 0}, []int{0, 7}, 1, 0, 0)
	shares(t, 64, []int{64}, []int{0}, 0, 64)
	shares(t, 64, []int{65}, []int{0}, 0, 64)
	shares(t, 64, []int{63}, []int{0}, 0, 63)
}

// P12.1: the highest prio is served first, and the next one has what is left.
func TestHighestFirst(t *testing.T) {
	shares(t, 5, []int{3, 3, 3}, []int{0, 1, 2}, 0, 0, 2, 3)
	shares(t, 5, []int{3, 3, 3}, []int{2, 1, 0}, 2, 3, 2, 0)
	shares(t, 3, []int{3, 9}, []int{6, 7}, 0, 0, 3)
	shares(t, 4, []int{3, 9}, []int{7, 6}, 1, 3, 1)
	shares(t, 8, []int{1, 1, 1, 1, 1, 1, 1, 1}, []int{0, 1, 2, 3, 4, 5, 6, 7}, 0, times(8, 1)...)
	shares(t, 3, []int{1, 1, 1, 1, 1, 1, 1, 1}, []int{0, 1, 2, 3, 4, 5, 6, 7}, 0, 0, 0, 0, 0, 0, 1, 1, 1)
	shares(t, 5, []int{2, 3, 2, 3}, []int{1, 0, 1, 0}, 3, 2, 0, 2, 1)
	shares(t, 6, []int{2, 3, 2, 3}, []int{1, 0, 1, 0}, 3, 2, 1, 2, 1)
	shares(t, 7, []int{2, 3, 2, 3}, []int{1, 0, 1, 0}, 3, 2, 1, 2, 2)
	shares(t, 6, []int{-5, 3, 0, 3}, []int{7, 0, 7, 1}, 0, 0, 3, 0, 3)
}

// P12.1: it begins with space turn, a rest by how many spaces there are, which is not below 0.
func TestTurnIsARest(t *testing.T) {
	for turn, wanted := range [][]int{{1, 0, 0}, {0, 1, 0}, {0, 0, 1}} {
		for _, rounds := range []int{-3000, -6, -3, 0, 3, 6, 3000} {
			shares(t, 1, []int{9, 9, 9}, []int{0, 0, 0}, turn+rounds, wanted...)
		}
	}
	shares(t, 7, []int{9, 9, 9}, []int{0, 0, 0}, -1, 2, 2, 3)
	shares(t, 8, []int{9, 9, 9}, []int{0, 0, 0}, -1, 3, 2, 3)
	shares(t, 8, []int{9, 9, 9}, []int{0, 0, 0}, -2, 2, 3, 3)
	shares(t, 1, []int{9}, []int{0}, math.MinInt, 1)
}

// P12.1: a turn at the ends of its numbers (which leave a rest of 1 and 2 by three, 5 by seven, 0 and 7 by eight).
func TestTurnAtItsEnds(t *testing.T) {
	shares(t, 1, times(3, 9), times(3, 0), math.MaxInt, 0, 1, 0)
	shares(t, 2, times(3, 9), times(3, 0), math.MaxInt, 0, 1, 1)
	shares(t, 3, times(3, 2), []int{0, 1, 0}, math.MaxInt, 0, 2, 1)
	shares(t, 1, times(3, 9), times(3, 0), math.MinInt, 0, 1, 0)
	shares(t, 1, times(3, 9), times(3, 0), math.MinInt+1, 0, 0, 1)
	shares(t, 1, times(8, 9), times(8, 0), math.MaxInt, 0, 0, 0, 0, 0, 0, 0, 1)
	shares(t, 2, times(8, 9), times(8, 0), math.MaxInt, 1, 0, 0, 0, 0, 0, 0, 1)
	shares(t, 1, times(8, 9), times(8, 0), math.MinInt, 1, 0, 0, 0, 0, 0, 0, 0)
	for _, turn := range ends() {
		for n := 1; n <= api.MaxSpaces; n++ {
			held(t, n/2+1, times(n, 9), times(n, 3), turn)
		}
	}
}

// P12.1: turn is one of all spaces; where it is of another prio, or wants nothing, the next one by numbers begins.
func TestTurnIsOfAllSpaces(t *testing.T) {
	shares(t, 1, []int{9, 9, 9, 9}, []int{5, 0, 5, 0}, 1, 0, 0, 1, 0)
	shares(t, 1, []int{9, 9, 9, 9}, []int{5, 0, 5, 0}, 2, 0, 0, 1, 0)
	shares(t, 1, []int{9, 9, 9, 9}, []int{5, 0, 5, 0}, 3, 1, 0, 0, 0)
	shares(t, 1, []int{9, 9, 9, 9}, []int{5, 0, 5, 0}, 0, 1, 0, 0, 0)
	shares(t, 3, []int{9, 0, 9, 9}, []int{5, 5, 5, 0}, 1, 1, 0, 2, 0)
	shares(t, 4, []int{3, 9, 3}, []int{1, 0, 1}, 2, 2, 0, 2)
	shares(t, 5, []int{3, 9, 3}, []int{1, 0, 1}, 5, 2, 0, 3)
	shares(t, 8, []int{3, 9, 3}, []int{1, 0, 1}, 0, 3, 2, 3)
	shares(t, 5, []int{2, 9, 9, 2}, []int{1, 0, 0, 1}, 2, 2, 0, 1, 2) // each prio begins with it, not where the last one stopped
}

// P12.1: a demand below 0 counts as 0.
func TestDemandBelowNought(t *testing.T) {
	shares(t, 3, []int{-4, 2}, []int{0, 0}, 0, 0, 2)
	shares(t, 3, []int{-1, -1}, []int{0, 0}, 0, 0, 0)
	shares(t, 3, []int{math.MinInt, 5, -1}, []int{7, 0, 0}, 0, 0, 3, 0)
	shares(t, 64, []int{math.MaxInt, math.MinInt, math.MaxInt}, []int{0, 0, 0}, 1, 32, 0, 32)
	shares(t, 63, []int{math.MaxInt, math.MinInt, math.MaxInt}, []int{0, 0, 0}, 1, 31, 0, 32)
	for _, a := range ends() {
		for _, b := range ends() {
			held(t, 64, []int{a, b}, []int{0, 0}, 1)
			held(t, 9, []int{a, b}, []int{0, 7}, 1)
		}
	}
}

// P12.1: none, if prio is not as long.
func TestPrioIsAsLong(t *testing.T) {
	refuses(t, 5, []int{1}, nil, 0)
	refuses(t, 5, nil, []int{0}, 0)
	refuses(t, 5, []int{1, 2}, []int{0}, 0)
	refuses(t, 5, []int{1, 2}, []int{0, 0, 0}, 0)
	refuses(t, 5, times(8, 1), times(9, 0), 0)
	refuses(t, 5, times(9, 1), times(8, 0), 0)
	refuses(t, 0, []int{0}, nil, 0)
}

// P12.1: none, if there are more than MaxSpaces.
func TestHowManySpaces(t *testing.T) {
	for n := range api.MaxSpaces {
		held(t, 5, times(n+1, 2), times(n+1, 0), 1)
	}
	for _, n := range []int{api.MaxSpaces + 1, api.MaxSpaces + 2, 64, 5000} {
		refuses(t, 5, times(n, 2), times(n, 0), 1)
		refuses(t, 0, times(n, 0), times(n, 7), 1)
	}
}

// P12.1: none, if procs is not from 0 to MaxProcs.
func TestHowManyProcs(t *testing.T) {
	for procs := 0; procs <= api.MaxProcs; procs++ {
		shares(t, procs, []int{math.MaxInt}, []int{0}, 0, procs)
	}
	for _, procs := range []int{math.MinInt, math.MinInt32, -64, -1, api.MaxProcs + 1, 128, math.MaxInt32, math.MaxInt} {
		refuses(t, procs, []int{1}, []int{0}, 0)
		refuses(t, procs, []int{0, 0}, []int{0, 7}, 0)
		refuses(t, procs, nil, nil, 0)
	}
}

// P12.1: none, if one of prio, wherever it is and whatever it wants, is not from 0 to MaxPrio.
func TestWhichPrio(t *testing.T) {
	for p := 0; p <= api.MaxPrio; p++ {
		shares(t, 5, []int{4, 3}, []int{p, p}, 1, 2, 3)
	}
	for _, p := range []int{math.MinInt, math.MinInt32, -8, -1, api.MaxPrio + 1, 64, math.MaxInt32, math.MaxInt} {
		for n := range api.MaxSpaces {
			prio := times(api.MaxSpaces, 3)
			prio[n] = p
			refuses(t, 5, times(api.MaxSpaces, 2), prio, 0)
			refuses(t, 0, times(api.MaxSpaces, 0), prio, 0)
		}
	}
}

// P12.1: of no spaces nothing is told, and turn has no rest.
func TestNoSpaces(t *testing.T) {
	for _, turn := range ends() {
		for _, procs := range ends() {
			shares(t, procs, nil, nil, turn)
			shares(t, procs, []int{}, nil, turn)
			shares(t, procs, nil, []int{}, turn)
		}
	}
}

// R4: an answer is new memory, spare room included.
func TestAnswersAreNew(t *testing.T) {
	demand, prio := roomy([]int{3, 9, 3}), roomy([]int{1, 0, 1})
	a := share.Fair(7, demand, prio, 0)
	b := share.Fair(7, demand, prio, 0)
	for i := range a[:cap(a)] {
		a[:cap(a)][i] = 1000
	}
	if !kept(demand, []int{3, 9, 3}) || !kept(prio, []int{1, 0, 1}) || !slices.Equal(b, []int{3, 1, 3}) || slices.Contains(b[:cap(b)], 1000) {
		t.Fatalf("an answer is also in %v, %v or %v", demand, prio, b)
	}
	demand[0], prio[1] = 0, 7
	if !slices.Equal(b, []int{3, 1, 3}) {
		t.Fatalf("an answer became %v by what was handed in", b)
	}
	shares(t, 7, []int{3, 9, 3}, []int{1, 0, 1}, 0, 3, 1, 3)
}
