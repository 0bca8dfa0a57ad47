package sys_test

import (
	"math"
	"testing"

	"drawknife/api"
	"drawknife/sys"
)

// P19.1: Do: ErrArg of another Kind, whatever else the entry has.
func TestDoOfOtherKinds(t *testing.T) {
	s := begin(t, 2, loops(0, 0)...)
	kinds := []int{0, 7, 8, 9, 63, -1, -6, math.MaxInt, math.MinInt}
	for low := 1; low <= 6; low++ {
		kinds = append(kinds, low+1<<32, low-1<<32, low+1<<8, low+1<<16, low+math.MinInt, -low)
	}
	for _, kind := range kinds {
		for _, a := range []int{0, 1, 2, -1, math.MaxInt} {
			for _, b := range []int{0, 1, math.MinInt} {
				mayNot(t, s, api.Step{Kind: kind, A: a, B: b}, api.ErrArg)
			}
		}
	}
}

// P19.1: Do: StepProc: a step of that processor alone.
func TestStepProc(t *testing.T) {
	s := begin(t, 3, loops(0, 0, 0)...)
	quiet(t, s, proc(1, 0))
	for p, wanted := range []int{api.Upcall, api.Handle, api.Upcall} {
		if mode(s, p) != wanted {
			t.Fatalf("%d is in %d", p, mode(s, p))
		}
	}
	quiet(t, s, proc(1, 5), proc(1, -1), proc(1, math.MaxInt), proc(1, 0), proc(1, 0))
	if mode(s, 1) != api.Running {
		t.Fatalf("1 is in %d", mode(s, 1))
	}
	acts(t, s, proc(1, 0), ran(1, 0, 0))
	isTold(t, s, 0, 0, added, unblocked(0))
	isTold(t, s, 2, 2, added, unblocked(0))
	owned(t, s, 0, 1, 2)
}

// P19.1: Do: StepProc: chapter 17's errors: there is none such; nobody's.
func TestStepProcErrors(t *testing.T) {
	s := begin(t, 4, loops(0, 0)...)
	owned(t, s, 0, 1, -1, -1)
	for _, b := range ends() {
		for _, p := range none(4) {
			mayNot(t, s, proc(p, b), api.ErrArg)
		}
		mayNot(t, s, proc(2, b), api.ErrIdle)
		mayNot(t, s, proc(3, b), api.ErrIdle)
	}
	all := begin(t, 64, loops(0)...)
	mayNot(t, all, proc(63, 0), api.ErrIdle)
	mayNot(t, all, proc(64, 0), api.ErrArg)
	mayNot(t, all, proc(-1, 0), api.ErrArg)
}

// P19.1: Do: StepProc: the choice is B.
func TestStepProcByChoice(t *testing.T) {
	first := does(on(api.Lock, 0), spawn(1), spawn(1), spawn(1), on(api.Unlock, 0))
	waiters := does(on(api.Lock, 0), reg(api.Print, 1), on(api.Unlock, 0))
	for _, c := range []struct{ choice, slot int }{
		{0, 1}, {1, 2}, {2, 3}, {3, 1}, {5, 3}, {-1, 3}, {-2, 2}, {-3, 1}, {1 << 32, 2}, {-1 << 32, 3}, {math.MaxInt, 2}, {math.MinInt, 2},
	} {
		list := []api.Program{crew(1, 0), program(first, waiters)}
		s := begin(t, 2, list...)
		space := s.Kern().Lib(1).Space()
		for _, slot := range []int{0, 0, 0, 0, 1, 2, 3} { // all but the first wait then
			if _, e := space.Run(slot, 0); e != api.OK {
				t.Fatalf("Run(%d) is %d", slot, e)
			}
		}
		ready(t, s, 1, 0)
		to(t, s, 1, 0, api.Inside)
		acts(t, s, proc(1, c.choice), ran(1, 0, c.choice))
		ready(t, s, 1, 0, c.slot)
	}
}

// sleeper is a function that sleeps for a while, and prints.
func sleeper(moments uint64) []api.Instr {
	return does(set(1, moments), reg(api.Sleep, 1), reg(api.Print, 1))
}

// P19.1: Do: StepTick: a moment goes by in each space; who is due goes on, and is told of.
func TestStepTick(t *testing.T) {
	list := []api.Program{program(sleeper(1)), program(sleeper(2)), program(sleeper(1))}
	s := begin(t, 3, list...)
	for p := range 3 {
		rests(t, s, p)
	}
	acts(t, s, tick(), ticked())
	isTold(t, s, 0, 0, unblocked(0))
	isTold(t, s, 2, 2, unblocked(0))
	ready(t, s, 0, 0)
	ready(t, s, 1)
	ready(t, s, 2, 0)
	if mode(s, 1) != api.Resting {
		t.Fatalf("1 is in %d", mode(s, 1))
	}
	acts(t, s, tick(), ticked())
	isTold(t, s, 0, 0, unblocked(0))
	isTold(t, s, 1, 1, unblocked(0))
	ready(t, s, 1, 0)
	acts(t, s, tick(), ticked())
	follows(t, s, list)
}

// reader is a function that asks for a block, and prints what it has.
func reader(block uint64) []api.Instr {
	return does(set(2, block), two(api.Read, 3, 2), reg(api.Print, 3))
}

// writers is a program of which three threads each write to a block.
func writers() api.Program {
	return program(does(spawn(1), spawn(1), two(api.Write, 5, 4)), does(reg(api.Self, 4), two(api.Write, 5, 4)))
}

// P19.1: Do: StepDone: of space A the request B is done; who asked goes on, and is told of.
func TestStepDone(t *testing.T) {
	list := []api.Program{program(reader(0)), program(reader(1)), crew(1, 0)}
	s := begin(t, 3, list...)
	rests(t, s, 0)
	rests(t, s, 1)
	acts(t, s, done(1, 0), wasDone(1, 0))
	isTold(t, s, 1, 1, unblocked(0))
	ready(t, s, 0)
	ready(t, s, 1, 0)
	if mode(s, 0) != api.Resting {
		t.Fatalf("0 is in %d", mode(s, 0))
	}
	mayNot(t, s, done(1, 0), api.ErrNone)
	acts(t, s, done(0, 7), wasDone(0, 7))
	isTold(t, s, 0, 0, unblocked(0))
	mayNot(t, s, done(0, 7), api.ErrNone)
	mayNot(t, s, done(2, 0), api.ErrNone)
	follows(t, s, list)
}

// P19.1: Do: StepDone: which request, is B by how many there are.
func TestStepDoneByNumber(t *testing.T) {
	for _, c := range []struct{ b, slot int }{
		{0, 0}, {1, 1}, {2, 2}, {3, 0}, {4, 1}, {8, 2}, {-1, 2}, {-2, 1}, {-3, 0}, {1 << 32, 1}, {-1 << 32, 2}, {math.MaxInt, 1}, {math.MinInt, 1},
	} {
		list := []api.Program{crew(1, 0), writers()}
		s := begin(t, 2, list...)
		rests(t, s, 1)
		ready(t, s, 1)
		acts(t, s, done(1, c.b), wasDone(1, c.b))
		ready(t, s, 1, c.slot)
		isTold(t, s, 1, 1, unblocked(c.slot))
		follows(t, s, list)
	}
}

// P19.1: Do: StepDone: ErrArg of a space that there is not, ErrNone, if no request waits there.
func TestStepDoneErrors(t *testing.T) {
	s := begin(t, 4, program(reader(0)), crew(1, 0))
	for _, b := range ends() {
		mayNot(t, s, done(0, b), api.ErrNone)
		mayNot(t, s, done(1, b), api.ErrNone)
	}
	rests(t, s, 0)
	for _, b := range ends() {
		for _, space := range none(2) {
			mayNot(t, s, done(space, b), api.ErrArg)
		}
		mayNot(t, s, done(1, b), api.ErrNone)
	}
	do(t, s, done(0, 0))
}

// P19.1: Do: StepPreempt: what the processor did is told of in a new vessel; it stays that of its space.
func TestStepPreempt(t *testing.T) {
	s := begin(t, 3, loops(0, 0)...)
	quiet(t, s, preempt(1))
	isTold(t, s, 1, 1, unblocked(0))
	quiet(t, s, proc(1, 0), preempt(1))
	isTold(t, s, 1, 1, cut(api.Handle, -1), unblocked(0))
	to(t, s, 1, 0, api.Running)
	quiet(t, s, preempt(1))
	isTold(t, s, 1, 1, preempted(0))
	isTold(t, s, 0, 0, added, unblocked(0))
	owned(t, s, 0, 1, -1)
	mayNot(t, s, preempt(2), api.ErrIdle)
	for _, p := range none(3) {
		mayNot(t, s, preempt(p), api.ErrArg)
	}
}

// P19.1: Do: StepTurn: any number; nothing else is another, ahead of the next sharing.
func TestStepTurn(t *testing.T) {
	s := begin(t, 1, loops(0, 0, 0)...)
	for _, c := range []struct{ turn, owner int }{
		{1, 1}, {2, 2}, {0, 0}, {3, 0}, {4, 1}, {8, 2}, {-1, 2}, {-2, 1}, {-3, 0}, {1 << 32, 1}, {1<<32 + 1, 2},
		{math.MaxInt, 1}, {math.MaxInt - 1, 0}, {math.MinInt, 1}, {math.MinInt + 1, 2},
	} {
		ahead := shows(s)
		do(t, s, turn(c.turn))
		turnIs(t, s, c.turn)
		ahead.numbers[len(ahead.numbers)-1] = c.turn
		still(t, s, ahead)
		quiet(t, s, share())
		owned(t, s, c.owner)
		turnIs(t, s, c.turn)
	}
}

// P19.1: Do: StepShare: by Prio and turn, and by who may run now.
func TestStepShare(t *testing.T) {
	s := begin(t, 4, crew(16, 1), crew(1, 1), crew(4, 0))
	owned(t, s, 0, 1, 2, -1)
	to(t, s, 0, 0, api.Inside)
	do(t, s, proc(0, 0))
	ready(t, s, 0, 0, 1)
	owned(t, s, 0, 1, 2, -1)
	quiet(t, s, share())
	owned(t, s, 0, 1, 2, 0)
	isTold(t, s, 3, 0, added)
	to(t, s, 0, 0, api.Inside)
	do(t, s, proc(0, 0))
	quiet(t, s, share())
	owned(t, s, 0, 1, 0, 0)
	ahead := shows(s)
	do(t, s, share())
	still(t, s, ahead)
}

// P19.1: Do: StepShare: what is left goes to who is first by turn, of those of one priority.
func TestStepShareByTurn(t *testing.T) {
	s := begin(t, 2, loops(3, 3, 3, 7, 0)...)
	owned(t, s, 0, 3)
	quiet(t, s, turn(1))
	owned(t, s, 0, 3)
	quiet(t, s, share())
	owned(t, s, 1, 3)
	quiet(t, s, turn(2), share())
	owned(t, s, 2, 3)
	quiet(t, s, turn(4), share())
	owned(t, s, 0, 3)
	quiet(t, s, turn(3), share())
	owned(t, s, 0, 3)
}

// P19.1: of what an entry's kind has no use for nothing comes.
func TestFieldsOfNoUse(t *testing.T) {
	begins := func() (a, b *sys.Sys) {
		list := []api.Program{program(sleeper(1)), program(reader(0)), crew(2, 0)}
		return begin(t, 2, list...), begin(t, 2, list...)
	}
	for _, n := range ends() {
		for _, m := range ends() {
			a, b := begins()
			for _, x := range []api.Step{{Kind: api.StepTick, A: n, B: m}, {Kind: api.StepPreempt, A: 1, B: m}, {Kind: api.StepTurn, A: n, B: m}, {Kind: api.StepShare, A: n, B: m}} {
				do(t, a, x)
			}
			do(t, b, tick(), preempt(1), turn(n), share())
			still(t, a, shows(b))
		}
	}
}
