package sys_test

import (
	"slices"
	"testing"

	"drawknife/api"
)

// P19.2: Log: a commit of whichever thread, space and choice, and no other step of a processor.
func TestLogOfCommits(t *testing.T) {
	list := []api.Program{crew(1, 0), program(does(spawn(1), set(2, 1), yield(), reg(api.Print, 2)), does(set(3, 1), pipe(api.Get, 3, 0)))}
	s := begin(t, 3, list...)
	to(t, s, 1, 4, api.Inside)
	logged(t, s, 0)
	acts(t, s, proc(1, 4), ran(1, 0, 4)) // Spawn
	to(t, s, 1, 4, api.Running)
	acts(t, s, proc(1, -5), ran(1, 0, -5)) // Set
	to(t, s, 1, 0, api.Inside)
	acts(t, s, proc(1, 1<<40), ran(1, 0, 1<<40)) // Yield: behind the other
	to(t, s, 1, 2, api.Running)
	acts(t, s, proc(1, 6), ran(1, 1, 6)) // the other's Set
	acts(t, s, proc(1, 7), ran(1, 1, 7)) // Get: it blocks
	to(t, s, 1, 2, api.Running)
	acts(t, s, proc(1, 8), ran(1, 0, 8)) // Print
	to(t, s, 1, 2, api.Inside)
	acts(t, s, proc(1, 9), ran(1, 0, 9)) // it ends
	for range 20 {
		quiet(t, s, proc(1, 3))
	}
	to(t, s, 0, 3, api.Running)
	acts(t, s, proc(0, 3), ran(0, 0, 3))
	logged(t, s, 0, ran(1, 0, 4), ran(1, 0, -5), ran(1, 0, 1<<40), ran(1, 1, 6), ran(1, 1, 7), ran(1, 0, 8), ran(1, 0, 9), ran(0, 0, 3))
	follows(t, s, list)
}

// P19.2: Log: a commit in whose midst the processor was taken away is done, and told, when the section is taken to its end.
func TestLogOfACommitTakenToItsEnd(t *testing.T) {
	list := []api.Program{program(does(spawn(1), yield(), on(api.Jump, 1)), does(yield(), on(api.Jump, 0))), crew(1, 0)}
	s := begin(t, 3, list...)
	to(t, s, 0, 0, api.Inside)
	quiet(t, s, preempt(0))
	isTold(t, s, 0, 0, cut(api.Inside, 0))
	ready(t, s, 0, 0)
	acts(t, s, proc(0, 6), ran(0, 0, 6))
	ready(t, s, 0, 0, 1)
	to(t, s, 0, 0, api.Inside)
	quiet(t, s, share())
	owned(t, s, 0, 1, 0)
	quiet(t, s, preempt(0), preempt(0))
	acts(t, s, proc(0, -1), ran(0, 1, -1))
	quiet(t, s, proc(2, 0), preempt(2))
	isTold(t, s, 2, 0, cut(api.Handle, -1))
	quiet(t, s, proc(2, 5)) // a section is taken to its end in which no thread was
	follows(t, s, list)
}

// P19.2: Log: a commit with which the thread ends by a fault is one.
func TestLogOfFaults(t *testing.T) {
	list := []api.Program{program(does(set(1, 99), two(api.Load, 2, 1), yield()))}
	s := begin(t, 1, list...)
	to(t, s, 0, 0, api.Running)
	acts(t, s, proc(0, 0), ran(0, 0, 0))
	acts(t, s, proc(0, 1), ran(0, 0, 1))
	ready(t, s, 0)
	if l := s.Records(0); len(l) != 1 || l[0].Op != api.Load || l[0].Result != api.ErrFault {
		t.Fatalf("there are %+v", l)
	}
	follows(t, s, list)
}

// P19.2: Log: each StepTick, whoever is due or not; each StepDone but with an error; in order, and of nothing else.
func TestLog(t *testing.T) {
	list := []api.Program{program(reader(1)), crew(1, 0), program(reader(0))}
	s := begin(t, 3, list...)
	do(t, s, tick())
	mayNot(t, s, done(0, 1), api.ErrNone)
	do(t, s, tick(), share(), turn(2), share())
	to(t, s, 0, 0, api.Resting)
	to(t, s, 2, 1, api.Resting)
	do(t, s, preempt(0), done(2, -9), tick(), done(0, 5))
	mayNot(t, s, done(0, 5), api.ErrNone)
	mayNot(t, s, done(3, 5), api.ErrArg)
	mayNot(t, s, proc(3, 5), api.ErrArg)
	mayNot(t, s, api.Step{Kind: 7}, api.ErrArg)
	do(t, s, tick(), tick())
	logged(t, s, 0, ticked(), ticked(), ran(0, 0, 0), ran(0, 0, 0), ran(2, 0, 1), ran(2, 0, 1), wasDone(2, -9), ticked(), wasDone(0, 5), ticked(), ticked())
	follows(t, s, list)
}

// P19.2: Log, Records, Memory are new memory each time.
func TestAnswersAreNew(t *testing.T) {
	list := []api.Program{program(does(set(1, 1), two(api.Store, 1, 1), reg(api.Print, 1), on(api.Jump, 1))), crew(1, 0)}
	s := begin(t, 2, list...)
	for range 40 {
		do(t, s, proc(0, 0), tick())
		ahead := shows(s)
		overwrite(s.Log(), ticked(), ran(7, 7, 7))
		overwrite(s.Records(0), api.Record{}, api.Record{Op: 99})
		overwrite(s.Memory(0), 0, 7004)
		overwrite(append(s.Log(), ticked()), ran(6, 6, 6), wasDone(6, 6))
		still(t, s, ahead)
	}
	follows(t, s, list)
	early := s.Log()
	was := slices.Clone(early)
	do(t, s, tick(), tick(), proc(0, 0), proc(0, 0))
	if !slices.Equal(early, was) {
		t.Fatalf("there came to be %v", early)
	}
}

// overwrite writes over a list, its spare room included, by whichever of two is another.
func overwrite[T comparable](list []T, a, b T) {
	all := list[:cap(list)]
	for n := range all {
		if all[n] == a {
			all[n] = b
		} else {
			all[n] = a
		}
	}
}

// P19.2: Records, Memory: those of that space; none of one that there is not.
func TestRecordsAndMemory(t *testing.T) {
	prints := func(n uint64, words int) api.Program {
		p := program(does(set(1, n), two(api.Store, 0, 1), reg(api.Print, 1), pipe(api.Get, 2, 0)))
		p.Words = words
		return p
	}
	list := []api.Program{prints(5, 1), prints(6, 3), prints(7, 2), crew(1, 0)}
	s := begin(t, 4, list...)
	for space := range 3 {
		if len(s.Records(space)) != 0 {
			t.Fatalf("in %d there are %+v", space, s.Records(space))
		}
		to(t, s, space, 0, api.Resting)
	}
	for space, n := range []uint64{5, 6, 7} {
		handle := s.Kern().Lib(space).Space()
		x, _ := handle.Look(0)
		wanted := []api.Record{
			{Thread: x.Handle, Op: api.Store, Y: n, End: true},
			{Thread: x.Handle, Op: api.Print, X: n, End: true},
			{Thread: x.Handle, Op: api.Get},
		}
		if l := s.Records(space); !slices.Equal(l, wanted) {
			t.Fatalf("in %d there are %+v, not %+v", space, l, wanted)
		}
		words := make([]uint64, list[space].Words)
		words[0] = n
		if l := s.Memory(space); !slices.Equal(l, words) {
			t.Fatalf("of %d the memory is %d, not %d", space, l, words)
		}
	}
	if len(s.Records(3)) != 0 || !slices.Equal(s.Memory(3), []uint64{0, 0}) {
		t.Fatalf("of 3 there are %v, %d", s.Records(3), s.Memory(3))
	}
	for _, space := range none(4) {
		if s.Records(space) != nil || s.Memory(space) != nil {
			t.Fatalf("of %d there are %v, %d", space, s.Records(space), s.Memory(space))
		}
	}
}

// P19.2: Kern: the thing itself, each time.
func TestKern(t *testing.T) {
	s := begin(t, 2, loops(0, 0, 0)...)
	k := s.Kern()
	if k == nil || k != s.Kern() {
		t.Fatal("it is another")
	}
	if e := k.Take(1); e != api.OK {
		t.Fatalf("Take(1) is %d", e)
	}
	owned(t, s, 0, -1)
	mayNot(t, s, proc(1, 0), api.ErrIdle)
	mayNot(t, s, preempt(1), api.ErrIdle)
	do(t, s, turn(2), share())
	if k != s.Kern() {
		t.Fatal("it is another by now")
	}
	owned(t, s, 0, 2)
	if space, had := k.Owner(1); space != 2 || !had {
		t.Fatalf("it is that of %d, %t", space, had)
	}
}

// P19.2: of a processor that its library has no more, as someone else had it go, a step is chapter 17's error, and no act.
func TestLibrariesOfOtherHands(t *testing.T) {
	s := begin(t, 2, loops(0, 0)...)
	to(t, s, 0, 0, api.Running)
	s.Kern().Lib(0).Revoke(0)
	mayNot(t, s, proc(0, 0), api.ErrIdle)
	s.Kern().Lib(0).Grant(0)
	to(t, s, 0, 0, api.Running)
	acts(t, s, proc(0, 2), ran(0, 0, 2))
}
