package ready_test

import (
	"math"
	"slices"
	"testing"

	"drawknife/api"
	"drawknife/ready"
)

// P13.1: so many rows as New is given, below 0 as 0, above MaxProcs as MaxProcs; all are empty, and each takes somebody.
func TestHowManyRows(t *testing.T) {
	counts := map[int]int{math.MinInt: 0, -1 << 32: 0, -64: 0, -1: 0, api.MaxProcs + 1: api.MaxProcs, 1 << 32: api.MaxProcs, math.MaxInt: api.MaxProcs}
	for n := range api.MaxProcs + 1 {
		counts[n] = n
	}
	for procs, count := range counts {
		r := ready.New(procs)
		if r == nil {
			t.Fatalf("New(%d) is nil", procs)
		}
		lists := make([][]int, count)
		holds(t, r, lists...)
		for _, proc := range noRows(count) {
			if proc < 0 || proc >= count {
				adds(t, r, proc, 5, false)
				picksNobody(t, r, proc)
			}
		}
		holds(t, r, lists...)
		for proc := range count {
			picksNobody(t, r, proc)
		}
		for proc := range count {
			adds(t, r, proc, 100+proc, true)
			lists[proc] = []int{100 + proc}
		}
		holds(t, r, lists...)
	}
}

// P13.1: who comes is the last of the row, and the other rows stay as they are.
func TestAddComesBehind(t *testing.T) {
	r := made(t, []int{}, []int{}, []int{})
	adds(t, r, 1, 4, true)
	holds(t, r, nil, []int{4}, nil)
	adds(t, r, 1, 2, true)
	holds(t, r, nil, []int{4, 2}, nil)
	adds(t, r, 0, 9, true)
	adds(t, r, 1, 3, true)
	adds(t, r, 2, 0, true)
	holds(t, r, []int{9}, []int{4, 2, 3}, []int{0})
}

// P13.1: who is in a row, at whichever place of whichever one, comes into none, and nothing moves.
func TestAddOfOneWhoIsInARow(t *testing.T) {
	rows := [][]int{{4, 0, 7}, {}, {1}, {5, -1}}
	r := made(t, rows...)
	for _, row := range rows {
		for _, thread := range row {
			for proc := range rows {
				adds(t, r, proc, thread, false)
				holds(t, r, rows...)
			}
		}
	}
}

// P13.1: there is no row of such a number: nobody comes into one, goes, or is in it.
func TestNoSuchRow(t *testing.T) {
	rows := [][]int{{4, 0}, {}, {1}}
	r := made(t, rows...)
	for _, proc := range noRows(len(rows)) {
		for _, thread := range []int{math.MinInt, -1, 0, 1, 2, 4, math.MaxInt} {
			adds(t, r, proc, thread, false)
		}
		picksNobody(t, r, proc)
		holds(t, r, rows...)
	}
}

// P13.1: of its own row the first one goes, however many the others have; the others stay.
func TestPickOfItsOwnRow(t *testing.T) {
	r := made(t, []int{1, 2, 3, 4}, []int{5, 6, 7}, []int{8})
	picks(t, r, 1, 5)
	holds(t, r, []int{1, 2, 3, 4}, []int{6, 7}, []int{8})
	picks(t, r, 1, 6)
	picks(t, r, 2, 8)
	picks(t, r, 0, 1)
	holds(t, r, []int{2, 3, 4}, []int{7}, nil)
	picks(t, r, 1, 7)
	picks(t, r, 0, 2)
	holds(t, r, []int{3, 4}, nil, nil)
}

// P13.1: of an empty row it is the last of the first row that has one: from 0 on, not from its own, and not the longest.
func TestPickFromAnothersEnd(t *testing.T) {
	for _, c := range []struct {
		proc, thread int
		rows, behind [][]int
	}{
		{2, 3, [][]int{{1, 2, 3}, {4, 5, 6, 7}, {}, {8}}, [][]int{{1, 2}, {4, 5, 6, 7}, {}, {8}}},
		{2, 5, [][]int{{}, {4, 5}, {}, {8, 9, 10}}, [][]int{{}, {4}, {}, {8, 9, 10}}},
		{0, 9, [][]int{{}, {}, {7, 9}, {8}}, [][]int{{}, {}, {7}, {8}}},
		{3, 6, [][]int{{6}, {4}, {7}, {}}, [][]int{{}, {4}, {7}, {}}},
		{1, 8, [][]int{{}, {}, {}, {2, 8}}, [][]int{{}, {}, {}, {2}}},
		{0, 0, [][]int{{}, {1, 0}, {2}}, [][]int{{}, {1}, {2}}},
		{1, -1, [][]int{{-1}, {}}, [][]int{{}, {}}},
	} {
		r := made(t, c.rows...)
		picks(t, r, c.proc, c.thread)
		holds(t, r, c.behind...)
	}
}

// P13.1: one processor takes all: its own from the first one on, then the others' from their ends, row by row; then there is nobody for anybody.
func TestPickOfAll(t *testing.T) {
	rows := [][]int{{1, 2}, {3, 4, 5}, {}, {6}, {7, 8}}
	order := [][]int{{1, 2, 5, 4, 3, 6, 8, 7}, {3, 4, 5, 2, 1, 6, 8, 7}, {2, 1, 5, 4, 3, 6, 8, 7}, {6, 2, 1, 5, 4, 3, 8, 7}, {7, 8, 2, 1, 5, 4, 3, 6}}
	for proc, threads := range order {
		r := made(t, rows...)
		for _, thread := range threads {
			if r.Empty() {
				t.Fatalf("Empty() is true ahead of %d", thread)
			}
			picks(t, r, proc, thread)
			isInNone(t, r, thread)
		}
		holds(t, r, make([][]int, len(rows))...)
		for other := range rows {
			picksNobody(t, r, other)
		}
	}
}

// P13.1: who went is in none, and may come again, into the same row or another one, behind.
func TestOneWhoWentComesAgain(t *testing.T) {
	r := made(t, []int{1, 2, 3}, []int{})
	picks(t, r, 0, 1)
	adds(t, r, 0, 1, true)
	holds(t, r, []int{2, 3, 1}, nil)
	picks(t, r, 1, 1)
	holds(t, r, []int{2, 3}, nil)
	adds(t, r, 1, 1, true)
	holds(t, r, []int{2, 3}, []int{1})
	picks(t, r, 0, 2)
	adds(t, r, 1, 2, true)
	adds(t, r, 0, 2, false)
	holds(t, r, []int{3}, []int{1, 2})
}

// P13.1 with R1: numbers at their ends are threads as others are.
func TestThreadsAtTheirEnds(t *testing.T) {
	list := ends()
	r := made(t, nil, list)
	for _, thread := range list {
		adds(t, r, 0, thread, false)
		adds(t, r, 1, thread, false)
	}
	holds(t, r, nil, list)
	for _, thread := range list {
		picks(t, r, 1, thread)
	}
	for k := range list {
		adds(t, r, 1, list[k], true)
	}
	for k := range list {
		picks(t, r, 0, list[len(list)-1-k])
	}
	holds(t, r, nil, nil)
}

// P13.1: rows that are nil take nobody and have nobody; they are empty. So it is where New was given none, and with rows that nobody made.
func TestNoRows(t *testing.T) {
	for _, r := range []*ready.Rows{nil, new(ready.Rows), ready.New(0), ready.New(-1), ready.New(math.MinInt)} {
		hasNoRows(t, r)
	}
}

// P13.1 with R4: what Row answers is the caller's own, spare room included.
func TestRowIsNewMemory(t *testing.T) {
	r := made(t, []int{1, 2, 3, 4, 5}, []int{6})
	first, second := r.Row(0), r.Row(0)
	first[0] = 9
	_ = append(first[:2], 9, 9, 9)
	for k := range first[:cap(first)] {
		first[:cap(first)][k] = 9
	}
	if !slices.Equal(second, []int{1, 2, 3, 4, 5}) {
		t.Error(second)
	}
	holds(t, r, []int{1, 2, 3, 4, 5}, []int{6})

	picks(t, r, 0, 1)
	picks(t, r, 1, 6)
	picks(t, r, 1, 5)
	adds(t, r, 0, 7, true)
	adds(t, r, 0, 8, true)
	if !slices.Equal(second, []int{1, 2, 3, 4, 5}) {
		t.Error(second)
	}
	_ = append(second[:0], 9, 9, 9, 9, 9)
	holds(t, r, []int{2, 3, 4, 7, 8}, nil)
}

// P13.1 with R4: what is left of an answer of none is not the row that comes to be later.
func TestRowOfNoneIsNewMemory(t *testing.T) {
	r := made(t, []int{1, 2})
	picks(t, r, 0, 1)
	picks(t, r, 0, 2)
	none := r.Row(0)
	adds(t, r, 0, 3, true)
	_ = append(none, 9, 9)
	holds(t, r, []int{3})
}

// P13.1: what only asks changes nothing.
func TestAskingChangesNothing(t *testing.T) {
	rows := [][]int{{3, 1}, {}, {2}}
	r := made(t, rows...)
	for range 3 {
		holds(t, r, rows...)
	}
}

// P13.1 with R5: what some rows hold, others do not.
func TestRowsAreApart(t *testing.T) {
	a, b := made(t, []int{1}, []int{2}), made(t, []int{2, 1}, []int{})
	picks(t, a, 0, 1)
	holds(t, a, nil, []int{2})
	holds(t, b, []int{2, 1}, nil)
	adds(t, a, 1, 1, true)
	picks(t, b, 1, 1)
	holds(t, a, nil, []int{2, 1})
	holds(t, b, []int{2}, nil)
}

// P13.1: a row has no most: thousands come, and go from both ends in order.
func TestManyThreads(t *testing.T) {
	const many = 1500
	r := ready.New(api.MaxProcs)
	last := api.MaxProcs - 1
	for n := range many {
		adds(t, r, last, n, true)
	}
	for n := range many / 2 {
		picks(t, r, last, n)
		picks(t, r, n%last, many-1-n)
	}
	holds(t, r, make([][]int, api.MaxProcs)...)
}
