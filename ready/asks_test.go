package ready_test

import (
	"math"
	"slices"
	"testing"

	"drawknife/api"
	"drawknife/ready"
)

// ends is numbers at their ends, and small ones.
func ends() []int {
	return []int{math.MinInt, math.MinInt + 1, -1 << 32, -2, -1, 0, 1, 15, 16, 1 << 32, math.MaxInt - 1, math.MaxInt}
}

// noRows is numbers that no row has, where there are so many.
func noRows(count int) []int {
	return []int{math.MinInt, -1 << 32, -count, -1, count, count + 1, api.MaxProcs, api.MaxProcs + 1, 1 << 32, math.MaxInt}
}

// made is rows with these threads in them, each having come behind in its row.
func made(t *testing.T, rows ...[]int) *ready.Rows {
	t.Helper()
	r := ready.New(len(rows))
	if r == nil {
		t.Fatalf("New(%d) is nil", len(rows))
	}
	for proc, row := range rows {
		for _, thread := range row {
			adds(t, r, proc, thread, true)
		}
	}
	return r
}

// adds asks for what Add is.
func adds(t *testing.T, r *ready.Rows, proc, thread int, wanted bool) {
	t.Helper()
	if ok := r.Add(proc, thread); ok != wanted {
		t.Fatalf("Add(%d, %d) is %t", proc, thread, ok)
	}
}

// picks asks for who Pick is.
func picks(t *testing.T, r *ready.Rows, proc, wanted int) {
	t.Helper()
	if thread, ok := r.Pick(proc); thread != wanted || !ok {
		t.Fatalf("Pick(%d) is %d, %t; not %d, true", proc, thread, ok, wanted)
	}
}

// picksNobody asks that Pick is nobody.
func picksNobody(t *testing.T, r *ready.Rows, proc int) {
	t.Helper()
	if thread, ok := r.Pick(proc); thread != 0 || ok {
		t.Fatalf("Pick(%d) is %d, %t; not 0, false", proc, thread, ok)
	}
}

// isIn asks in which row a thread is.
func isIn(t *testing.T, r *ready.Rows, thread, wanted int) {
	t.Helper()
	if proc, ok := r.Where(thread); proc != wanted || !ok {
		t.Fatalf("Where(%d) is %d, %t; not %d, true", thread, proc, ok, wanted)
	}
}

// isInNone asks that a thread is in no row.
func isInNone(t *testing.T, r *ready.Rows, thread int) {
	t.Helper()
	if proc, ok := r.Where(thread); proc != 0 || ok {
		t.Fatalf("Where(%d) is %d, %t; not 0, false", thread, proc, ok)
	}
}

// holds asks for all that one sees of rows: who is in each, and that there is nobody beside them.
func holds(t *testing.T, r *ready.Rows, rows ...[]int) {
	t.Helper()
	var all []int
	for proc, row := range rows {
		if l := r.Row(proc); !slices.Equal(l, row) {
			t.Fatalf("Row(%d) is %d, not %d", proc, l, row)
		}
		for _, thread := range row {
			isIn(t, r, thread, proc)
		}
		all = append(all, row...)
	}
	for _, proc := range noRows(len(rows)) {
		if proc < 0 || proc >= len(rows) {
			if l := r.Row(proc); len(l) != 0 {
				t.Fatalf("Row(%d) is %d", proc, l)
			}
		}
	}
	for _, thread := range ends() {
		if !slices.Contains(all, thread) {
			isInNone(t, r, thread)
		}
	}
	if r.Empty() != (len(all) == 0) {
		t.Fatalf("Empty() is %t of %d", r.Empty(), rows)
	}
}

// hasNoRows asks that there is nobody, and no row for anybody.
func hasNoRows(t *testing.T, r *ready.Rows) {
	t.Helper()
	for _, proc := range ends() {
		for _, thread := range ends() {
			adds(t, r, proc, thread, false)
		}
		picksNobody(t, r, proc)
	}
	holds(t, r)
}
