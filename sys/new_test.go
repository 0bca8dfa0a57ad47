package sys_test

import (
	"slices"
	"testing"

	"drawknife/api"
	"drawknife/sys"
)

// P19.1: New: so many processors and spaces, shared out by the turn of the first; nothing was done yet.
func TestNew(t *testing.T) {
	for _, procs := range []int{1, 2, 7, 8, 9, 63, 64} {
		for _, spaces := range []int{1, 2, 7, 8} {
			s := begin(t, procs, loops(alike(spaces, 0)...)...)
			if k := s.Kern(); k.Procs() != procs || k.Spaces() != spaces {
				t.Fatalf("of %d, %d there are %d, %d", procs, spaces, k.Procs(), k.Spaces())
			}
			wanted := alike(procs, -1)
			for n := range min(procs, spaces) { // one thread each
				wanted[n] = n
				isTold(t, s, n, n, added, unblocked(0))
			}
			owned(t, s, wanted...)
			for n := min(procs, spaces); n < spaces; n++ {
				waits(t, s, n, unblocked(0))
			}
			turnIs(t, s, 0)
			logged(t, s, 0)
			for n := range spaces {
				ready(t, s, n, 0)
				if len(s.Records(n)) != 0 || !slices.Equal(s.Memory(n), []uint64{0, 0}) {
					t.Fatalf("of %d there are %v, %d", n, s.Records(n), s.Memory(n))
				}
			}
		}
	}
}

// P19.1: New: shared out by the programs' Prio.
func TestNewByPriority(t *testing.T) {
	for _, c := range []struct {
		prio, wanted []int
	}{
		{[]int{0, 1}, []int{1}},
		{[]int{1, 0}, []int{0}},
		{[]int{0, 7, 7}, []int{1}},
		{[]int{0, 7, 7}, []int{1, 2}},
		{[]int{0, 7, 7}, []int{0, 1, 2}}, // in their order, as all have one
		{[]int{6, 7, 5}, []int{0, 1}},
		{[]int{5, 6, 7}, []int{1, 2}},
		{[]int{7, 6, 5, 4, 3, 2, 1, 0}, []int{0, 1, 2}},
		{[]int{0, 1, 2, 3, 4, 5, 6, 7}, []int{5, 6, 7}},
		{[]int{3, 3, 3, 3}, []int{0, 1, 2}},
		{[]int{3, 3, 3, 4}, []int{0, 1, 3}},
	} {
		s := begin(t, len(c.wanted), loops(c.prio...)...)
		owned(t, s, c.wanted...)
		turnIs(t, s, 0)
	}
	for high := 1; high <= api.MaxPrio; high++ {
		for low := range high {
			owned(t, begin(t, 1, loops(low, high)...), 1)
			owned(t, begin(t, 1, loops(high, low)...), 0)
		}
	}
}

// P19.1: New: chapter 17's ErrArg, whatever the programs are.
func TestNewOfWrongNumbers(t *testing.T) {
	for _, procs := range append(none(api.MaxProcs+1), 0) {
		if procs >= 1 && procs <= api.MaxProcs {
			continue
		}
		refuses(t, procs, loops(0), api.ErrArg)
		refuses(t, procs, loops(alike(8, 7)...), api.ErrArg)
		refuses(t, procs, []api.Program{tooMuch()}, api.ErrArg)
		refuses(t, procs, []api.Program{noCode()}, api.ErrArg)
		refuses(t, procs, nil, api.ErrArg)
	}
	refuses(t, 1, nil, api.ErrArg)
	refuses(t, 64, []api.Program{}, api.ErrArg)
	for _, spaces := range []int{9, 10, 16, 64, 256, 257} {
		refuses(t, 1, loops(alike(spaces, 0)...), api.ErrArg)
		refuses(t, 1, append(loops(alike(spaces-1, 0)...), tooMuch()), api.ErrArg)
		refuses(t, 1, append([]api.Program{noCode()}, loops(alike(spaces-1, 0)...)...), api.ErrArg)
	}
}

// P19.1: New: chapter 17's error of the first program that may not be; one of no priority is such.
func TestNewOfWrongPrograms(t *testing.T) {
	refuses(t, 1, []api.Program{{}}, api.ErrCap)
	refuses(t, 1, []api.Program{noCode()}, api.ErrCode)
	for _, prio := range none(api.MaxPrio + 1) {
		refuses(t, 2, loops(prio), api.ErrCap)
		refuses(t, 2, loops(0, 7, prio), api.ErrCap)
	}
	for ahead := range 7 {
		list := loops(alike(ahead, 0)...)
		refuses(t, 2, append(slices.Clone(list), tooMuch()), api.ErrCap)
		refuses(t, 2, append(slices.Clone(list), noCode()), api.ErrCode)
		refuses(t, 2, append(slices.Clone(list), tooMuch(), noCode()), api.ErrCap)
		refuses(t, 2, append(slices.Clone(list), noCode(), tooMuch()), api.ErrCode)
	}
	refuses(t, 64, append(loops(alike(7, 0)...), noCode()), api.ErrCode)
	refuses(t, 64, append(loops(alike(7, 0)...), tooMuch()), api.ErrCap)
}

// P19.1: the programs that are handed in are not changed, and not kept, nor are their priorities.
func TestProgramsAreTheCallers(t *testing.T) {
	list := append(make([]api.Program, 0, 5), crew(1, 2), program(does(set(2, 7), set(3, 8))))
	roomy := list[:5]
	roomy[2], roomy[3], roomy[4] = tooMuch(), noCode(), noCode()
	s := begin(t, 1, list...)
	owned(t, s, 0)
	if roomy[2].Words != tooMuch().Words || len(roomy[3].Funcs) != 1 || len(roomy[4].Funcs) != 1 {
		t.Fatalf("there came to be %v", roomy)
	}
	if !slices.Equal(list[1].Funcs[0], does(set(2, 7), set(3, 8))) || !slices.Equal(list[1].Sems, []int{0, 1}) || !slices.Equal(list[1].Pipes, []int{1, 1}) {
		t.Fatalf("there came to be %v", list)
	}
	if list[0].Prio != 2 || list[0].Words != 2 || list[1].Prio != 0 || list[1].Blocks != 2 {
		t.Fatalf("there came to be %v", list)
	}
	for n := range roomy {
		for _, f := range roomy[n].Funcs {
			for i := range f {
				f[i] = api.Instr{Op: 99}
			}
		}
		roomy[n] = api.Program{Prio: 7 * n} // the second is ahead now
	}
	do(t, s, share())
	owned(t, s, 0)
	do(t, s, turn(1), share())
	owned(t, s, 0)
	if e := s.Kern().Take(0); e != api.OK {
		t.Fatalf("Take(0) is %d", e)
	}
	if e := s.Kern().Give(0, 1); e != api.OK {
		t.Fatalf("Give(0, 1) is %d", e)
	}
	to(t, s, 0, 0, api.Running)
	do(t, s, proc(0, 0), proc(0, 0))
	if x, _ := s.Kern().Lib(1).Space().Look(0); x.Regs[2] != 7 || x.Regs[3] != 8 {
		t.Fatalf("the words are %d", x.Regs)
	}
}

// P19.1: systems of the same programs have nothing in common.
func TestSystemsOnTheirOwn(t *testing.T) {
	list := loops(0, 0, 3)
	a, b := begin(t, 2, list...), begin(t, 2, list...)
	ahead := shows(b)
	do(t, a, proc(0, 1), tick(), preempt(1), turn(1), share(), proc(1, 0), proc(1, 0))
	still(t, b, ahead)
	after := shows(a)
	do(t, b, turn(-1), share(), tick(), tick())
	still(t, a, after)
}

// nothing asks that a system shows nothing.
func nothing(t *testing.T, s *sys.Sys) {
	t.Helper()
	if s.Log() != nil || s.Kern() != nil || s.Turn() != 0 {
		t.Fatalf("there are %v, %v, %d", s.Log(), s.Kern(), s.Turn())
	}
	for _, space := range append(ends(), none(api.MaxSpaces)...) {
		if s.Records(space) != nil || s.Memory(space) != nil {
			t.Fatalf("of %d there are %v, %d", space, s.Records(space), s.Memory(space))
		}
	}
}

// P19.1, P19.2: of a nil system: ErrArg, nothing, 0.
func TestNil(t *testing.T) {
	var s *sys.Sys
	nothing(t, s)
	for kind := range 8 {
		for _, a := range ends() {
			for _, b := range ends() {
				if e := s.Do(api.Step{Kind: kind, A: a, B: b}); e != api.ErrArg {
					t.Fatalf("Do(%d, %d, %d) is %d", kind, a, b, e)
				}
			}
		}
	}
	nothing(t, s)
}

// P19.1, P19.2: one that New did not make has no processors and no spaces.
func TestUnmade(t *testing.T) {
	s := new(sys.Sys)
	nothing(t, s)
	for _, a := range ends() {
		for _, x := range []api.Step{proc(a, 0), done(a, 0), preempt(a), {Kind: 0, A: a}, {Kind: 7, A: a}} {
			if e := s.Do(x); e != api.ErrArg {
				t.Fatalf("Do(%+v) is %d", x, e)
			}
		}
	}
	do(t, s, share())
	nothing(t, s)
	do(t, s, turn(3), tick())
	turnIs(t, s, 3)
	logged(t, s, 0, ticked())
}
