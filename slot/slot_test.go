package slot_test

import (
	"math"
	"slices"
	"testing"

	"drawknife/api"
	"drawknife/slot"
)

// take takes a slot that must be there to take.
func take(t *testing.T, s *slot.Table, slot int, handle uint64) {
	t.Helper()
	at, h, e := s.Take()
	if at != slot || h != handle || e != api.OK {
		t.Fatalf("Take is %d, %d, %d; not %d, %d", at, h, e, slot, handle)
	}
}

// full asks that there is nothing to take.
func full(t *testing.T, s *slot.Table, why api.Errno) {
	t.Helper()
	if at, h, e := s.Take(); at != 0 || h != 0 || e != why {
		t.Fatalf("Take is %d, %d, %d; not 0, 0, %d", at, h, e, why)
	}
}

// isNone asks that a handle is no slot's.
func isNone(t *testing.T, s *slot.Table, handle uint64) {
	t.Helper()
	if at, ok := s.Find(handle); at != 0 || ok {
		t.Errorf("Find(%d) is %d, %t", handle, at, ok)
	}
	if e := s.Free(handle); e != api.ErrNone {
		t.Errorf("Free(%d) is %d", handle, e)
	}
}

// P4.1: New has so many slots, all free; below 0 is 0, above 1024 is 1024.
func TestNewHasSoManyFreeSlots(t *testing.T) {
	for _, c := range []struct{ n, slots int }{
		{math.MinInt, 0}, {-1, 0}, {0, 0}, {1, 1}, {2, 2}, {16, 16}, {1023, 1023},
		{1024, 1024}, {1025, 1024}, {65536, 1024}, {math.MaxInt, 1024},
	} {
		s := slot.New(c.n)
		if u := s.Used(); len(u) != 0 {
			t.Errorf("New(%d) uses %v", c.n, u)
		}
		for k := range c.slots {
			take(t, s, k, uint64(65536+k+1))
		}
		full(t, s, api.ErrFull)
		full(t, s, api.ErrFull)
		if u := s.Used(); len(u) != c.slots {
			t.Errorf("New(%d) has %d slots", c.n, len(u))
		}
	}
}

// P4.1: Take uses the least free slot, whatever was freed last; ErrFull takes nothing.
func TestTakeIsTheLeastFree(t *testing.T) {
	s := slot.New(4)
	for k := range 4 {
		take(t, s, k, uint64(65536+k+1))
	}
	for _, k := range []uint64{1, 3, 0} {
		if e := s.Free(65536 + k + 1); e != api.OK {
			t.Fatal(k, e)
		}
	}
	if u := s.Used(); !slices.Equal(u, []int{2}) {
		t.Error(u)
	}
	take(t, s, 0, 131073)
	take(t, s, 1, 131074)
	take(t, s, 3, 131076)
	full(t, s, api.ErrFull)
	if s.Free(131074) != api.OK {
		t.Error("Free")
	}
	take(t, s, 1, 196610)
}

// P4.1: a handle is how often its slot was taken times 65536, and slot and 1 more; an old one is never one again.
func TestHandlesAreNeverTheSameTwice(t *testing.T) {
	s := slot.New(2)
	take(t, s, 0, 65537)
	for k := range uint64(70000) {
		h := (k+1)*65536 + 2
		take(t, s, 1, h)
		if at, ok := s.Find(h); at != 1 || !ok {
			t.Fatal(at, ok)
		}
		if s.Free(h) != api.OK {
			t.Fatal("Free", h)
		}
		isNone(t, s, h)
		isNone(t, s, 2)
	}
	take(t, s, 1, 70001*65536+2)
	for k := range uint64(70000) {
		isNone(t, s, (k+1)*65536+2)
	}
	if h, ok := s.Handle(0); h != 65537 || !ok {
		t.Error(h, ok)
	}
}

// P4.1: Find and Free know no handle that is none; Handle no slot that is free or none.
func TestWrongHandlesAndSlots(t *testing.T) {
	s := slot.New(3)
	take(t, s, 0, 65537)
	take(t, s, 1, 65538)
	take(t, s, 2, 65539)
	if s.Free(65538) != api.OK {
		t.Fatal("Free")
	}
	for _, h := range []uint64{
		0, 1, 2, 3, 4, 65535, 65536, 65538, 65540, 66560, 131071, 131072, 131073, 131074, 131075,
		1<<32 + 65537, 1<<48 + 65537, 1<<63 + 65537, math.MaxInt64, 1 << 63, math.MaxUint64, math.MaxUint64 - 65535,
	} {
		isNone(t, s, h)
	}
	for _, k := range []int{math.MinInt, -65536, -1, 1, 3, 4, 1024, 65536, math.MaxInt} {
		if h, ok := s.Handle(k); h != 0 || ok {
			t.Errorf("Handle(%d) is %d, %t", k, h, ok)
		}
	}
	if u := s.Used(); !slices.Equal(u, []int{0, 2}) {
		t.Error(u)
	}
}

// P4.1: a table that is nil has nothing; one that nobody made has no slot.
func TestNilTable(t *testing.T) {
	for _, c := range []struct {
		s   *slot.Table
		why api.Errno
	}{{nil, api.ErrNone}, {new(slot.Table), api.ErrFull}} {
		full(t, c.s, c.why)
		for _, h := range []uint64{0, 1, 65536, 65537, math.MaxUint64} {
			isNone(t, c.s, h)
		}
		for _, k := range []int{-1, 0, 1} {
			if h, ok := c.s.Handle(k); h != 0 || ok {
				t.Error(k, h, ok)
			}
		}
		if u := c.s.Used(); len(u) != 0 {
			t.Error(u)
		}
	}
}

// P4.1 with R4: what Used answers is the caller's own.
func TestUsedIsNewMemory(t *testing.T) {
	s := slot.New(3)
	take(t, s, 0, 65537)
	take(t, s, 1, 65538)
	first := s.Used()
	first[0], first[1] = 9, 9
	if second := s.Used(); !slices.Equal(second, []int{0, 1}) {
		t.Error(second)
	}
	other := slot.New(3)
	take(t, other, 0, 65537)
}

// held is a table, as lists of all that ever was taken: what the promises say, word by word.
type held struct {
	slots int
	taken []int
	now   map[int]uint64
}

// free is the least slot that is free, or -1.
func (h held) free() int {
	for k := range h.slots {
		if _, used := h.now[k]; !used {
			return k
		}
	}
	return -1
}

// same asks a table for all that one can ask of it.
func (h held) same(t *testing.T, s *slot.Table) {
	t.Helper()
	var used []int
	for k := range h.slots {
		handle, ok := s.Handle(k)
		want, is := h.now[k]
		if handle != want || ok != is {
			t.Fatalf("Handle(%d) is %d, %t", k, handle, ok)
		}
		if is {
			used = append(used, k)
			if at, ok := s.Find(want); at != k || !ok {
				t.Fatalf("Find(%d) is %d, %t", want, at, ok)
			}
		}
	}
	if u := s.Used(); !slices.Equal(u, used) {
		t.Fatal(u, used)
	}
}

// P4.1: long runs of takes and frees, held against lists of what was taken.
func TestLongRuns(t *testing.T) {
	for slots := range 9 {
		h := held{slots: slots, now: map[int]uint64{}}
		s := slot.New(slots)
		x := uint64(slots + 1)
		for range 2000 {
			x = x*6364136223846793005 + 1442695040888963407
			if x>>62 != 0 {
				if at := h.free(); at < 0 {
					full(t, s, api.ErrFull)
				} else {
					h.taken = append(h.taken, at)
					times := 0
					for _, k := range h.taken {
						if k == at {
							times++
						}
					}
					h.now[at] = uint64(times*65536 + at + 1)
					take(t, s, at, h.now[at])
				}
			}
			if k := int(x >> 40 % 9); x>>61&1 == 1 {
				handle, is := h.now[k]
				if e := s.Free(handle); (e == api.OK) != is || !is && e != api.ErrNone {
					t.Fatal(handle, e)
				}
				delete(h.now, k)
			}
			h.same(t, s)
		}
	}
}
