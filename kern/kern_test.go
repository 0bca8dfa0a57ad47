package kern_test

import (
	"math"
	"slices"
	"testing"

	"drawknife/api"
	"drawknife/kern"
)

// P17.1: New: so many processors, all free, and a space for each program, of which nobody has any.
func TestNew(t *testing.T) {
	for _, procs := range []int{1, 2, 3, 63, 64} {
		for _, spaces := range []int{1, 2, 7, 8} {
			k := begin(t, procs, alike(spaces, loop())...)
			if k.Procs() != procs || k.Spaces() != spaces {
				t.Fatalf("of %d, %d there are %d, %d", procs, spaces, k.Procs(), k.Spaces())
			}
			var all []int
			for proc := range procs {
				all = append(all, proc)
			}
			free(t, k, all...)
			demands(t, k, slices.Repeat([]int{1}, spaces)...)
			nobodys(t, k, all...)
			for space := range spaces {
				waits(t, k, space, unblocked(0))
				may(t, k, space, 0)
			}
		}
	}
}

// P17.1: New: no processors, or too many, no programs, or too many: ErrArg, whatever the programs are.
func TestNewOfWrongNumbers(t *testing.T) {
	for _, procs := range append(none(api.MaxProcs+1), 0) {
		if procs >= 1 && procs <= api.MaxProcs {
			continue
		}
		refuses(t, procs, alike(1, loop()), api.ErrArg)
		refuses(t, procs, alike(8, loop()), api.ErrArg)
		refuses(t, procs, []api.Program{tooMuch()}, api.ErrArg)
		refuses(t, procs, []api.Program{noCode()}, api.ErrArg)
		refuses(t, procs, nil, api.ErrArg)
	}
	refuses(t, 1, nil, api.ErrArg)
	refuses(t, 64, []api.Program{}, api.ErrArg)
	for _, spaces := range []int{9, 10, 16, 64, 256, 257} {
		refuses(t, 1, alike(spaces, loop()), api.ErrArg)
		refuses(t, 1, append(alike(spaces-1, loop()), tooMuch()), api.ErrArg)
		refuses(t, 1, append([]api.Program{noCode()}, alike(spaces-1, loop())...), api.ErrArg)
	}
}

// P17.1: New: the error of the first program that may not be.
func TestNewOfWrongPrograms(t *testing.T) {
	refuses(t, 1, []api.Program{{}}, api.ErrCap)
	refuses(t, 1, []api.Program{noCode()}, api.ErrCode)
	for ahead := range 7 {
		list := alike(ahead, loop())
		refuses(t, 2, append(slices.Clone(list), tooMuch()), api.ErrCap)
		refuses(t, 2, append(slices.Clone(list), noCode()), api.ErrCode)
		refuses(t, 2, append(slices.Clone(list), tooMuch(), noCode()), api.ErrCap)
		refuses(t, 2, append(slices.Clone(list), noCode(), tooMuch()), api.ErrCode)
	}
	refuses(t, 64, append(alike(7, loop()), noCode()), api.ErrCode)
	refuses(t, 64, append(alike(7, loop()), tooMuch()), api.ErrCap)
}

// P17.1: New: each space is that of its own program, on its own; so is each kernel.
func TestSpacesOfTheirPrograms(t *testing.T) {
	var list []api.Program
	for k := range 8 {
		p := program(does(set(1, uint64(10+k)), two(api.Store, 2, 1)))
		p.Words = 1 + k
		list = append(list, p)
	}
	a, b := begin(t, 2, list...), begin(t, 2, list...)
	for space := range 8 {
		gives(t, a, space, 1)
		to(t, a, 1, api.Running)
		commits(t, a, 1, space, 0, nothing)
		takes(t, a, 1)
	}
	for space := range 8 {
		s := a.Lib(space).Space()
		if len(s.Memory()) != 1+space {
			t.Fatalf("in %d there are %d words", space, len(s.Memory()))
		}
		waits(t, a, space, preempted(0))
		word(t, a, space, 0, 1, uint64(10+space))
		waits(t, b, space, unblocked(0))
		word(t, b, space, 0, 1, 0)
	}
	free(t, b, 0, 1)
}

// P17.1: the programs that are handed in are not changed, and not kept.
func TestProgramsAreTheCallers(t *testing.T) {
	one := program(does(set(2, 5), set(3, 6)), loop())
	two := program(does(set(2, 7)))
	list := append(make([]api.Program, 0, 5), one, two)
	roomy := list[:5]
	roomy[2], roomy[3], roomy[4] = tooMuch(), noCode(), noCode()
	k := begin(t, 1, list...)
	if roomy[2].Words != tooMuch().Words || len(roomy[3].Funcs) != 1 || len(roomy[4].Funcs) != 1 {
		t.Fatalf("there came to be %v", roomy)
	}
	if !slices.Equal(one.Funcs[0], does(set(2, 5), set(3, 6))) || !slices.Equal(one.Funcs[1], loop()) || !slices.Equal(two.Funcs[0], does(set(2, 7))) {
		t.Fatalf("there came to be %v", list)
	}
	if !slices.Equal(one.Sems, []int{0, 1}) || !slices.Equal(two.Pipes, []int{1, 1}) || list[0].Words != 2 || list[1].Blocks != 2 {
		t.Fatalf("there came to be %v", list)
	}
	for n := range roomy {
		for _, f := range roomy[n].Funcs {
			for i := range f {
				f[i] = api.Instr{Op: 99}
			}
		}
		roomy[n] = api.Program{}
	}
	demands(t, k, 1, 1)
	thread(t, k, 0, 0, 2)
	thread(t, k, 1, 0, 1)
	word(t, k, 0, 0, 2, 5)
	word(t, k, 0, 0, 3, 6)
	word(t, k, 1, 0, 2, 7)
}

// P17.1: Give: a free processor has the space as its owner, and is told what waits there; the next one just that it was added.
func TestGive(t *testing.T) {
	k := begin(t, 4, alike(3, loop())...)
	gives(t, k, 1, 2)
	isTold(t, k, 2, 1, added, unblocked(0))
	waits(t, k, 0, unblocked(0))
	waits(t, k, 1)
	waits(t, k, 2, unblocked(0))
	free(t, k, 0, 1, 3)
	nobodys(t, k, 0, 1, 3)

	gives(t, k, 1, 0)
	isTold(t, k, 0, 1, added)
	isTold(t, k, 2, 1, added, unblocked(0))
	gives(t, k, 0, 3)
	isTold(t, k, 3, 0, added, unblocked(0))
	gives(t, k, 2, 1)
	isTold(t, k, 1, 2, added, unblocked(0))
	free(t, k)
	if !slices.Equal(k.Lib(1).Procs(), []int{0, 2}) {
		t.Fatalf("space 1 has %d", k.Lib(1).Procs())
	}
	demands(t, k, 1, 1, 1)
}

// P17.1: Give: ErrArg of a processor, or a space, that there is not, also if the other one is there and not free; else ErrBusy.
func TestGiveWhatMayNotBe(t *testing.T) {
	for _, procs := range []int{1, 3, 64} {
		for _, spaces := range []int{1, 2, 8} {
			k := begin(t, procs, alike(spaces, loop())...)
			refusesAll := func() {
				t.Helper()
				for _, proc := range none(procs) {
					if proc >= 0 && proc < procs {
						continue
					}
					is(t, k.Give(proc, 0), api.ErrArg)
					is(t, k.Give(proc, spaces-1), api.ErrArg)
					is(t, k.Give(proc, spaces), api.ErrArg)
					is(t, k.Give(proc, -1), api.ErrArg)
				}
				for _, space := range none(spaces) {
					if space >= 0 && space < spaces {
						continue
					}
					is(t, k.Give(0, space), api.ErrArg)
					is(t, k.Give(procs-1, space), api.ErrArg)
				}
			}
			refusesAll()
			nobodys(t, k, 0, procs-1)
			for proc := range procs {
				gives(t, k, proc%spaces, proc)
			}
			refusesAll()
			for proc := range procs {
				owns(t, k, proc, proc%spaces)
				for space := range spaces {
					is(t, k.Give(proc, space), api.ErrBusy)
				}
				owns(t, k, proc, proc%spaces)
			}
		}
	}
}

// P17.1: Give: one that is not free goes on with what it does.
func TestBusyOnesGoOn(t *testing.T) {
	k := begin(t, 2, alike(2, loop())...)
	gives(t, k, 0, 1)
	to(t, k, 1, api.Running)
	is(t, k.Give(1, 0), api.ErrBusy)
	is(t, k.Give(1, 1), api.ErrBusy)
	in(t, k, 1, 0, api.Running, 0)
	waits(t, k, 1, unblocked(0))
	free(t, k, 0)
}

// P17.1: Take: it is free; what is left of it is told to the least one that the space has, or waits.
func TestTake(t *testing.T) {
	k := begin(t, 3, alike(2, loop())...)
	gives(t, k, 0, 0, 1, 2)
	to(t, k, 0, api.Running)
	takes(t, k, 0)
	nobodys(t, k, 0)
	free(t, k, 0)
	isTold(t, k, 1, 0, preempted(0))
	isTold(t, k, 2, 0, added)
	waits(t, k, 0)
	waits(t, k, 1, unblocked(0))

	to(t, k, 1, api.Pick)
	takes(t, k, 1)
	isTold(t, k, 2, 0, cut(api.Pick, -1))
	free(t, k, 0, 1)
	takes(t, k, 2)
	free(t, k, 0, 1, 2)
	nobodys(t, k, 0, 1, 2)
	waits(t, k, 0, cut(api.Pick, -1))
	demands(t, k, 1, 1)

	gives(t, k, 1, 1)
	isTold(t, k, 1, 1, added, unblocked(0))
	gives(t, k, 0, 2)
	isTold(t, k, 2, 0, added, cut(api.Pick, -1))
	free(t, k, 0)
}

// P17.1: Take: ErrArg of one that there is not, ErrIdle of one that is free.
func TestTakeWhatMayNotBe(t *testing.T) {
	for _, procs := range []int{1, 2, 64} {
		k := begin(t, procs, alike(2, loop())...)
		for _, proc := range none(procs) {
			if proc < 0 || proc >= procs {
				mayNot(t, k, proc, api.ErrArg)
			}
		}
		for proc := range procs {
			mayNot(t, k, proc, api.ErrIdle)
		}
		gives(t, k, 1, procs-1)
		takes(t, k, procs-1)
		mayNot(t, k, procs-1, api.ErrIdle)
		gives(t, k, 1, procs-1)
		for _, proc := range none(procs) {
			if proc < 0 || proc >= procs {
				mayNot(t, k, proc, api.ErrArg)
			}
		}
		isTold(t, k, procs-1, 1, added, unblocked(0))
	}
}

// P17.1: Owner: false of those that there are not, and of those that are free.
func TestOwner(t *testing.T) {
	for _, procs := range []int{1, 2, 64} {
		k := begin(t, procs, alike(8, loop())...)
		for round := range 8 {
			for proc := range procs {
				nobodys(t, k, proc)
				gives(t, k, (proc+round)%8, proc)
				owns(t, k, proc, (proc+round)%8)
			}
			for _, proc := range none(procs) {
				if proc >= 0 && proc < procs {
					continue
				}
				if space, ok := k.Owner(proc); space != 0 || ok {
					t.Fatalf("of %d Owner(%d) is %d, %t", procs, proc, space, ok)
				}
			}
			for proc := range procs {
				owns(t, k, proc, (proc+round)%8)
			}
			free(t, k)
			for proc := range procs {
				takes(t, k, proc)
			}
		}
	}
}

// P17.1: Free: rising, whatever the order in which they came and went.
func TestFree(t *testing.T) {
	k := begin(t, 64, alike(3, loop())...)
	var all []int
	for proc := range 64 {
		all = append(all, proc)
	}
	for n := range 64 {
		gives(t, k, n%3, n*27%64) // 27 and 64 have nothing in common
		all = slices.DeleteFunc(all, func(proc int) bool { return proc == n*27%64 })
		free(t, k, all...)
	}
	for n := range 64 {
		takes(t, k, n*11%64)
		all = append(all, n*11%64)
		slices.Sort(all)
		free(t, k, all...)
	}
}

// P17.1: Demand: how many threads may run, wherever they are; of those that are blocked or have ended none.
func TestDemand(t *testing.T) {
	crew := does(spawn(1), spawn(1), spawn(1), pipe(api.Get, 2, 0), on(api.Jump, 4))
	k := begin(t, 3, program(crew, loop()), program(loop()), program(crew, does(one(api.Exit, 0))))
	demands(t, k, 1, 1, 1)
	thread(t, k, 0, 0, 2)
	demands(t, k, 3, 1, 1)
	thread(t, k, 0, 0, 1)
	demands(t, k, 4, 1, 1)
	thread(t, k, 0, 0, 1) // waits to get
	demands(t, k, 3, 1, 1)
	thread(t, k, 2, 0, 3)
	demands(t, k, 3, 1, 4)
	thread(t, k, 2, 2, 1) // has ended
	demands(t, k, 3, 1, 3)
	gives(t, k, 0, 0, 2)
	gives(t, k, 1, 1)
	demands(t, k, 3, 1, 3)
	to(t, k, 0, api.Running)
	demands(t, k, 3, 1, 3)
	takes(t, k, 0, 1)
	demands(t, k, 3, 1, 3)
	thread(t, k, 2, 0, 1)
	thread(t, k, 2, 1, 1)
	thread(t, k, 2, 3, 1)
	demands(t, k, 3, 1, 0)

	full := begin(t, 1, program(append(slices.Repeat(does(spawn(1)), 16), loop()...), loop()))
	thread(t, full, 0, 0, 15)
	demands(t, full, 16)
	thread(t, full, 0, 0, 1)
	demands(t, full, 16)
}

// P17.1 and P17.2: a kernel that is nil, or was not made by New, has no processors and no spaces.
func TestNoKernel(t *testing.T) {
	for _, k := range []*kern.Kern{nil, new(kern.Kern)} {
		for _, n := range append(ends(), 2, 7, 63, 64) {
			for _, m := range ends() {
				is(t, k.Give(n, m), api.ErrArg)
				is(t, k.Done(n, m), api.ErrArg)
			}
			mayNot(t, k, n, api.ErrArg)
			if space, ok := k.Owner(n); space != 0 || ok {
				t.Fatalf("Owner(%d) is %d, %t", n, space, ok)
			}
			if k.Lib(n) != nil {
				t.Fatalf("there is a library %d", n)
			}
		}
		k.Tick()
		free(t, k)
		demands(t, k)
		if k.Procs() != 0 || k.Spaces() != 0 {
			t.Fatalf("there are %d, %d", k.Procs(), k.Spaces())
		}
	}
}

// P17.1: a library is the thing itself, and may be changed by who has it: whose a processor is the kernel knows by itself.
func TestLibrariesOfSomeoneElse(t *testing.T) {
	k := begin(t, 3, alike(2, loop())...)
	gives(t, k, 1, 0)
	if !k.Lib(1).Revoke(0) || !k.Lib(0).Grant(1) {
		t.Fatal("they may not go and come")
	}
	if space, ok := k.Owner(0); space != 1 || !ok {
		t.Fatalf("Owner(0) is %d, %t", space, ok)
	}
	if space, ok := k.Owner(1); space != 0 || ok {
		t.Fatalf("Owner(1) is %d, %t", space, ok)
	}
	free(t, k, 1, 2)
	mayNot(t, k, 1, api.ErrIdle)
	is(t, k.Give(0, 1), api.ErrBusy)
	for _, choice := range []int{0, -1, math.MaxInt} {
		if space, did, e := k.Step(0, choice); space != 0 || did.Commit || e != api.ErrIdle {
			t.Fatalf("Step(0, %d) is %d, %+v, %d", choice, space, did, e)
		}
	}
	is(t, k.Preempt(0), api.OK)
	takes(t, k, 0)
	gives(t, k, 0, 1)
	owns(t, k, 1, 0)
	free(t, k, 0, 2)
}
