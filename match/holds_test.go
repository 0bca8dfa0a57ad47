package match_test

import (
	"slices"
	"testing"

	"drawknife/api"
	"drawknife/match"
	"drawknife/sys"
)

// P20.1: nothing holds of a nil system, whatever the list.
func TestHoldsNil(t *testing.T) {
	for _, list := range [][]api.Program{nil, {}, {prints(1)}, {{}}, make([]api.Program, api.MaxSpaces+1), {prints(1), begins()}} {
		fails(t, list, nil)
	}
}

// R1: a system that New did not make has no spaces, and of no programs there is no model.
func TestHoldsUnmade(t *testing.T) {
	s := &sys.Sys{}
	for range 2 {
		for _, list := range [][]api.Program{nil, {}, {prints(1)}, {{}}} {
			fails(t, list, s)
		}
		do(t, s, turn(1))
	}
}

// P20.1: a system holds by the programs that it was made of, from its beginning on, behind each entry.
func TestHoldsOnTheWay(t *testing.T) {
	list := []api.Program{begins(), prints(5), begins()}
	for procs := 1; procs <= 4; procs++ {
		s := begin(t, procs, list)
		holds(t, list, s)
		for n := range 400 {
			s.Do(onTheWay(n, procs))
			holds(t, list, s)
		}
		for space, few := range []int{6, 2, 6} {
			if len(s.Records(space)) < few {
				t.Fatalf("by %d there was not much seen of %d: %+v", procs, space, s.Log())
			}
		}
	}
}

// onTheWay is an entry of a script in which all kinds are.
func onTheWay(n, procs int) api.Step {
	switch {
	case n%31 == 30:
		return preempt(n % procs)
	case n%23 == 22:
		return turn(n % 4)
	case n%13 == 12:
		return share()
	case n%11 == 10:
		return tick()
	case n%7 == 6:
		return done(n%3, n)
	}
	return proc(n%procs, n)
}

// P20.1: entries that are errors, and those that are no acts, change nothing in what holds.
func TestHoldsBesideErrors(t *testing.T) {
	list := []api.Program{begins(), prints(5)}
	s := begin(t, 2, list)
	commits(t, s, 1, 1)
	for _, n := range ends() {
		for kind := range 9 {
			if kind == api.StepTick {
				continue
			}
			s.Do(api.Step{Kind: kind, A: n, B: n})
			holds(t, list, s)
		}
	}
}

// P20.1: as many spaces as there may be, and one alone.
func TestHoldsCounts(t *testing.T) {
	for count := 1; count <= api.MaxSpaces; count++ {
		list := slices.Repeat([]api.Program{begins()}, count)
		s := begin(t, 3, list)
		for n := range 200 {
			s.Do(proc(n%3, n))
		}
		holds(t, list, s)
		for at := range list {
			p := begins()
			p.Words++
			fails(t, with(list, at, p), s)
		}
		for other := range api.MaxSpaces + 3 {
			if other != count {
				fails(t, slices.Repeat([]api.Program{begins()}, other), s)
			}
		}
	}
}

// P20.1: a list that has not as many programs does not hold, also where nothing was done yet, and where what was done is the same.
func TestHoldsOtherCounts(t *testing.T) {
	list := []api.Program{begins(), begins()}
	for _, s := range []*sys.Sys{begin(t, 1, list), begin(t, 1, list, tick())} {
		holds(t, list, s)
		fails(t, nil, s)
		fails(t, list[:1], s)
		fails(t, append(slices.Clone(list), begins()), s)
		fails(t, append(slices.Clone(list), api.Program{}), s)
		fails(t, make([]api.Program, 256+2), s)
	}
}

// P20.1: programs that may not be have no model, so nothing holds by them.
func TestHoldsWrongPrograms(t *testing.T) {
	list := []api.Program{begins(), prints(1), begins()}
	for _, s := range []*sys.Sys{begin(t, 2, list), begin(t, 2, list, tick(), proc(0, 0))} {
		for _, p := range wrong() {
			for at := range list {
				fails(t, with(list, at, p), s)
			}
		}
		fails(t, make([]api.Program, 3), s)
	}
}

// P20.1: the model must do all acts of the log, also if what one sees is the same without those that it can't do.
func TestHoldsActs(t *testing.T) {
	slow, quick := program(does(set(3, 3), reg(api.Print, 1))), program(does(reg(api.Print, 1)))
	list := []api.Program{slow, slow}
	for at := range list {
		s := begin(t, 2, list)
		commits(t, s, at, 2)
		fails(t, with(list, at, quick), s) // it is at its end already
		commits(t, s, at, 1)
		holds(t, list, s)
		fails(t, with(list, at, quick), s) // it was there ahead of the last act
		holds(t, with(list, 1-at, quick), s)
		o := replays(t, with(list, at, quick), s.Log(), 2, api.ErrBusy)
		if !match.Same(o.Records(at), s.Records(at)) || len(o.Ready(at)) != 0 {
			t.Fatalf("one sees %+v", o.Records(at))
		}
	}
}

// P20.1: acts that the model can't do, of threads and requests that there are not.
func TestHoldsActsOfNobody(t *testing.T) {
	list := []api.Program{begins(), begins()}
	s := begin(t, 2, list)
	commits(t, s, 1, 3)
	holds(t, list, s)
	fails(t, with(list, 1, program(does(on(api.Down, 0)))), s)
	do(t, s, done(1, 0))
	holds(t, list, s)
	fails(t, with(list, 1, program(does(spawn(0), reg(api.Print, 1), yield()))), s)
}

// P20.1: another record of any space is no match; in all else they are the same.
func TestHoldsRecords(t *testing.T) {
	list := []api.Program{prints(1), prints(2), prints(3)}
	s := begin(t, 3, list)
	for p := range 3 {
		commits(t, s, p, 2)
	}
	holds(t, list, s)
	for at := range list {
		fails(t, with(list, at, prints(9)), s)
		fails(t, with(list, at, program(does(set(1, uint64(at+1)), reg(api.Detach, 1)))), s)
		fails(t, with(list, at, program(does(set(1, uint64(at+1)), set(1, uint64(at+1))))), s)
	}
	fails(t, []api.Program{list[1], list[0], list[2]}, s)
}

// P20.1: another memory of any space is no match, by how much there is, and by what is in it.
func TestHoldsMemory(t *testing.T) {
	list := []api.Program{prints(1), prints(2), prints(3)}
	for _, words := range []int{0, 1, 3, api.MaxWords} {
		s := begin(t, 3, list)
		for range 2 {
			holds(t, list, s)
			for at := range list {
				p := list[at]
				p.Words = words
				fails(t, with(list, at, p), s)
			}
			commits(t, s, 0, 1)
		}
	}
	stores := func(word uint64) api.Program {
		return program(does(set(1, word), two(api.Store, 2, 1)))
	}
	s := begin(t, 1, []api.Program{stores(4)})
	commits(t, s, 0, 1)
	holds(t, []api.Program{stores(5)}, s)
	commits(t, s, 0, 1)
	holds(t, []api.Program{stores(4)}, s)
	fails(t, []api.Program{stores(5)}, s)
}

// P20.1: others that may run are no match.
func TestHoldsReady(t *testing.T) {
	list := []api.Program{prints(1), program(does(on(api.Down, 1), yield()))}
	blocked := list[1]
	blocked.Sems = []int{0, 0}
	s := begin(t, 2, list)
	commits(t, s, 1, 1)
	holds(t, list, s)
	fails(t, with(list, 1, blocked), s)
	fails(t, with(list, 1, program(does())), s)
	fails(t, with(list, 1, program(does(spawn(0), yield()))), s)
}

// P20.1: what no one sees does not count: words of a thread, objects that nobody uses, code to which nobody comes, the priority.
func TestHoldsUnseen(t *testing.T) {
	list := []api.Program{begins(), prints(6)}
	s := begin(t, 2, list)
	commits(t, s, 0, 2)
	commits(t, s, 1, 1)
	other := begins()
	other.Prio, other.Mutexes, other.Sems, other.Pipes, other.Blocks, other.Conds = 7, 0, nil, []int{3}, 9, 1
	other.Funcs[1] = does(set(3, 3))
	holds(t, with(list, 0, other), s)
	holds(t, with(list, 1, program(does(set(1, 8)), does())), s)
	commits(t, s, 0, 1)
	holds(t, list, s)
}

// P20.1: what somebody does to the system's kernel, and its log does not tell, is found.
func TestHoldsMeddled(t *testing.T) {
	list := []api.Program{prints(1), program(does(set(1, 1), reg(api.Sleep, 1)))}
	for at := range 2 {
		s := begin(t, 2, list)
		commits(t, s, 0, 2)
		commits(t, s, 1, 2)
		holds(t, list, s)
		if at == 0 {
			s.Kern().Tick()
		} else {
			s.Kern().Lib(1).Space().Run(0, 0)
			holds(t, list, s) // it was an error there
			s.Kern().Lib(0).Space().Run(0, 0)
		}
		fails(t, list, s)
		fails(t, list, s)
	}
}

// P20.1: what somebody does that one does not see holds.
func TestHoldsMeddledUnseen(t *testing.T) {
	list := []api.Program{prints(1)}
	s := begin(t, 2, list)
	s.Kern().Lib(0).Space().Run(0, 0)
	holds(t, list, s)
	s.Kern().Lib(0).Space().Run(0, 0)
	fails(t, list, s)
}

// P20.1 and R4: neither the list nor the system is changed, and nothing of them is kept.
func TestHoldsChangesNothing(t *testing.T) {
	list := []api.Program{begins(), prints(2), prints(3)}
	s := begin(t, 2, list[:2])
	commits(t, s, 0, 2)
	commits(t, s, 1, 1)
	ahead, records, turns := s.Log(), [][]api.Record{s.Records(0), s.Records(1)}, s.Turn()
	holds(t, list[:2], s)
	fails(t, list, s)
	fails(t, with(list, 1, prints(9))[:1], s)
	if !slices.Equal(s.Log(), ahead) || s.Turn() != turns || !match.Same(s.Records(0), records[0]) || !match.Same(s.Records(1), records[1]) {
		t.Fatalf("the system is at %+v now", s.Log())
	}
	if list[2].Words != 2 || list[1].Funcs[0][0] != set(1, 2) || len(list[0].Funcs) != 2 {
		t.Fatalf("the programs are %v now", list)
	}
	list[1].Funcs[0][1] = reg(api.Exit, 1)
	commits(t, s, 1, 1)
	fails(t, list[:2], s)
	list[1].Funcs[0][1] = reg(api.Print, 1)
	holds(t, list[:2], s)
}
