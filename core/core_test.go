package core_test

import (
	"math"
	"slices"
	"testing"

	"drawknife/api"
	"drawknife/core"
	"drawknife/inst"
)

// all is a program with all objects, at their most.
func all(funcs ...[]api.Instr) api.Program {
	return api.Program{Funcs: funcs, Words: api.MaxWords, Mutexes: api.MaxObjects, Conds: api.MaxObjects,
		Sems: []int{0, 1, 2, api.MaxCount}, Pipes: []int{1, 2, 3, api.MaxPipe}, Blocks: api.MaxBlocks, Prio: api.MaxPrio}
}

// P10.1: New answers inst.Check's error, and no space beside it.
func TestNewRefuses(t *testing.T) {
	long := does(times(api.MaxCode+1, one(api.Yield, 0))...)
	wrong := []api.Program{
		{}, code(long), {Funcs: make([][]api.Instr, api.MaxFuncs+1)},
		{Funcs: make([][]api.Instr, 1), Words: -1}, {Funcs: make([][]api.Instr, 1), Words: api.MaxWords + 1},
		{Funcs: make([][]api.Instr, 1), Sems: []int{-1}}, {Funcs: make([][]api.Instr, 1), Pipes: []int{0}},
		{Funcs: make([][]api.Instr, 1), Blocks: math.MaxInt}, {Funcs: make([][]api.Instr, 1), Mutexes: math.MinInt},
		{Funcs: make([][]api.Instr, 1), Prio: api.MaxPrio + 1},
		code(does(one(0, 0))), code(does(set(8, 0))), code(does(on(api.Lock, 0))), code(does(spawn(0, 0, 1))),
		code(does(), does(one(api.Print+1, 0))), code(does(pipe(api.Get, 0, 0))),
		{Funcs: [][]api.Instr{{one(0, 0)}}, Words: -1}, // both: ErrCap is named first
	}
	for _, p := range wrong {
		e := inst.Check(p)
		if s, err := core.New(p); s != nil || err != e || e == api.OK {
			t.Errorf("New(%v) is %v, %d; not nil, %d", p, s, err, e)
		}
	}
}

// P10.1: a new space has memory all 0, thread 0 at function 0 with registers 0, and no record.
func TestNewSpace(t *testing.T) {
	for words := range api.MaxWords + 1 {
		p := code(does(one(api.Print, 0)), does(one(api.Yield, 0)))
		p.Words = words
		s := begin(t, p)
		remembers(t, s, make([]uint64, words)...)
		looks(t, s, 0, api.Thread{Handle: first})
		looksNot(t, s, 1, 15)
		readyAre(t, s, 0)
		tells(t, s)
		runs(t, s, 0, nothing)
		tells(t, s, did(first, api.Print, 0, 0))
	}
	begin(t, all(make([][]api.Instr, api.MaxFuncs)...))
}

// P10.1 and R4: a program is neither changed nor kept.
func TestProgramIsTheCallers(t *testing.T) {
	make1 := func() api.Program {
		return api.Program{
			Funcs: [][]api.Instr{does(spawn(1, 0, 1), on(api.Down, 0), one(api.Print, 1), pipe(api.Put, 1, 0), pipe(api.Put, 1, 0)), does(one(api.Print, 0))},
			Sems:  []int{1}, Pipes: []int{2}, Words: 1,
		}
	}
	p, q := make1(), make1()
	spare := append(p.Funcs[0], one(api.Yield, 0))[:5:6]
	p.Funcs[0] = spare
	s, twin := begin(t, p), begin(t, q)
	for _, x := range []*core.Space{s, twin} {
		if x == s {
			for k := range p.Funcs {
				for j := range p.Funcs[k] {
					p.Funcs[k][j] = one(api.Exit, 0)
				}
				p.Funcs[k] = nil
			}
			p.Sems[0], p.Pipes[0], p.Words = 0, 1, 0
		}
		runs(t, x, 0, wakes(1), nothing, nothing, nothing, nothing)
		runs(t, x, 1, nothing, ends)
	}
	if !slices.Equal(s.Records(), twin.Records()) {
		t.Errorf("records are %v, not %v", s.Records(), twin.Records())
	}
	r := make1()
	if spare[:6][5] != one(api.Yield, 0) || !slices.Equal(q.Funcs[0], r.Funcs[0]) || !slices.Equal(q.Funcs[1], r.Funcs[1]) || q.Sems[0] != 1 || q.Pipes[0] != 2 {
		t.Errorf("the program is %v now", q)
	}
}

// P10.1: Run answers ErrArg of slots that no thread has: none, or free, or free again.
func TestRunOfNobody(t *testing.T) {
	s := begin(t, code(does(spawn(1, 0, 1), two(api.Join, 2, 1)), does()))
	for _, slot := range append(noSlots(), 1, 2, 15) {
		refuses(t, s, slot, api.ErrArg)
		if c := s.Class(slot); c != 0 {
			t.Errorf("Class(%d) is %d", slot, c)
		}
	}
	looksNot(t, s, append(noSlots(), 1, 2, 15)...)
	runs(t, s, 0, wakes(1))
	runs(t, s, 1, ends)
	is(t, s, 1, api.Finished)
	runs(t, s, 0, nothing)
	refuses(t, s, 1, api.ErrArg)
	looksNot(t, s, 1)
	looks(t, s, 0, api.Thread{Handle: first, PC: 2, Regs: regs(1, second)})
}

// P10.1: plain instructions are chapter 3's; they are not told, and leave the error as it is.
func TestPlain(t *testing.T) {
	s := begin(t, code(does(soil(), set(1, 5), api.Instr{Op: api.Add, A: 2, B: 1, C: 1}, two(api.Move, 3, 2), on(api.Jump, 6), set(1, 0),
		api.Instr{Op: api.Zero, A: 4, N: 8}, set(1, 0), api.Instr{Op: api.Zero, A: 1, N: 0}, api.Instr{Op: api.FAdd, A: 5, B: 6, C: 6}, one(api.Yield, 0))))
	passes(t, s, 0, 8)
	looks(t, s, 0, api.Thread{Handle: first, PC: 10, Regs: regs(1, 5, 2, 10, 3, 10, 7, stale)})
	tells(t, s)
	runs(t, s, 0, yields, ends)
}

// P10.1: a jump may go behind a function, where there is no next instruction.
func TestJumpBehind(t *testing.T) {
	for _, to := range []uint64{1, 2, 255, api.MaxCode} {
		s := begin(t, code(does(on(api.Jump, to)), does(one(api.Print, 0))))
		passes(t, s, 0, 1)
		if c := s.Class(0); c != 2 {
			t.Errorf("Class(0) is %d", c)
		}
		runs(t, s, 0, ends)
		looks(t, s, 0, api.Thread{Handle: first, Why: api.Finished, PC: int(to)})
		tells(t, s, did(first, api.Exit, 0, 0))
	}
}

// P10.1: Load and Store are told, with address and word, and leave the error as it is.
func TestLoadStore(t *testing.T) {
	p := code(does(soil(), set(1, 63), set(2, 7), two(api.Store, 1, 2), two(api.Load, 3, 1), two(api.Load, 1, 1), set(2, 0), two(api.Store, 2, 1), two(api.Load, 7, 2), two(api.Store, 0, 7)))
	p.Words = 64
	s := begin(t, p)
	passes(t, s, 0, 10)
	words := make([]uint64, 64)
	words[63], words[0] = 7, 7
	remembers(t, s, words...)
	looks(t, s, 0, api.Thread{Handle: first, PC: 10, Regs: regs(1, 7, 3, 7, 7, 7)})
	tells(t, s, did(first, api.Store, 63, 7), did(first, api.Load, 63, 7), did(first, api.Load, 63, 7), did(first, api.Store, 0, 7), did(first, api.Load, 0, 7), did(first, api.Store, 0, 7))
}

// P10.1: an address without a word ends the thread with Value 2^64 - 1: it passes nothing, nothing is written.
func TestFault(t *testing.T) {
	for _, words := range []int{0, 1, 64} {
		for _, address := range []uint64{uint64(words), uint64(words) + 1, 1 << 32, 1 << 63, math.MaxUint64} {
			for _, op := range []int{api.Load, api.Store} {
				p := code(does(soil(), set(1, address), set(2, 8), two(op, 1, 2)))
				word := uint64(8)
				if op == api.Load {
					p = code(does(soil(), set(2, address), set(1, 8), two(op, 1, 2)))
					word = 0
				}
				p.Words = words
				s := begin(t, p)
				passes(t, s, 0, 3)
				x, _ := s.Look(0)
				runs(t, s, 0, ends)
				x.Why, x.Value = api.Finished, math.MaxUint64
				looks(t, s, 0, x)
				if x.PC != 3 || x.Regs[7] != stale {
					t.Errorf("the thread is %+v", x)
				}
				tells(t, s, failed(first, op, address, word, api.ErrFault))
				remembers(t, s, make([]uint64, words)...)
				is(t, s, 0, api.Finished)
				readyAre(t, s)
			}
		}
	}
}

// P10.1: who joins one that a fault ends has its Value; of a detached one the slot is free.
func TestFaultOfOthers(t *testing.T) {
	s := begin(t, code(does(spawn(1, 0, 1), two(api.Join, 2, 1), spawn(1, 0, 1), one(api.Detach, 1)), does(two(api.Load, 0, 0))))
	runs(t, s, 0, wakes(1), stops)
	runs(t, s, 1, endsAndWakes(0))
	has(t, s, 0, 2, math.MaxUint64)
	looksNot(t, s, 1)
	toldLast(t, s, failed(second, api.Load, 0, 0, api.ErrFault), ended(first, api.Join, math.MaxUint64))
	runs(t, s, 0, wakes(1), nothing)
	runs(t, s, 1, ends)
	looksNot(t, s, 1)
	toldLast(t, s, failed(second+65536, api.Load, 0, 0, api.ErrFault))
}

// P10.1: Spawn begins a thread at its function, with B's word; A and Y are its handle.
func TestSpawn(t *testing.T) {
	s := begin(t, code(does(soil(), set(2, 6), spawn(1, 2, 2), spawn(2, 2, 1), spawn(0, 3, 0)), does(one(api.Yield, 0)), does(one(api.Print, 0))))
	passes(t, s, 0, 2)
	runs(t, s, 0, wakes(1))
	looks(t, s, 0, api.Thread{Handle: first, PC: 3, Regs: regs(1, second, 2, 6)})
	looks(t, s, 1, api.Thread{Handle: second, Func: 2, Regs: regs(0, 6)})
	runs(t, s, 0, wakes(2))
	looks(t, s, 0, api.Thread{Handle: first, PC: 4, Regs: regs(1, second, 2, third)})
	looks(t, s, 2, api.Thread{Handle: third, Func: 1, Regs: regs(0, 6)})
	runs(t, s, 0, wakes(3))
	looks(t, s, 3, api.Thread{Handle: fourth})
	looks(t, s, 0, api.Thread{Handle: first, PC: 5, Regs: regs(0, fourth, 1, second, 2, third)})
	readyAre(t, s, 0, 1, 2, 3)
	tells(t, s, did(first, api.Spawn, 2, second), did(first, api.Spawn, 1, third), did(first, api.Spawn, 0, fourth))
	runs(t, s, 1, nothing)
	toldLast(t, s, did(second, api.Print, 6, 0))
}

// P10.1: the error comes last, also behind a handle that goes into register 7.
func TestSpawnIntoError(t *testing.T) {
	s := begin(t, code(does(soil(), spawn(7, 7, 0))))
	passes(t, s, 0, 1)
	runs(t, s, 0, wakes(1))
	has(t, s, 0, 7, 0)
	has(t, s, 1, 0, stale)
	tells(t, s, did(first, api.Spawn, 0, second))
}

// P10.1: where there is no slot Spawn is ErrFull: A is 0, and nobody begins.
func TestSpawnFull(t *testing.T) {
	for _, a := range []int{0, 1, 6, 7} {
		s := begin(t, code(append(times(15, spawn(2, 2, 1)), set(a, 5), spawn(a, 2, 1), two(api.Join, 3, 2), soil(), spawn(a, 2, 1)), does()))
		for slot := 1; slot < api.MaxThreads; slot++ {
			runs(t, s, 0, wakes(slot))
		}
		passes(t, s, 0, 2)
		wanted := regs(2, 65536+16)
		wanted[7] = uint64(api.ErrFull)
		looks(t, s, 0, api.Thread{Handle: first, PC: 17, Regs: wanted})
		toldLast(t, s, failed(first, api.Spawn, 1, 0, api.ErrFull))
		if n := len(s.Ready()); n != api.MaxThreads {
			t.Errorf("%d may run", n)
		}
		// One that has ended has its slot still, till someone joins it.
		runs(t, s, 15, ends)
		runs(t, s, 0, nothing, nothing, wakes(15))
		toldLast(t, s, did(first, api.Join, 65536+16, 0), did(first, api.Spawn, 1, 2*65536+16))
		looks(t, s, 15, api.Thread{Handle: 2*65536 + 16, Func: 1, Regs: regs(0, 65536+16)})
		has(t, s, 0, 7, 0)
	}
}

// P10.1: the least free slot is taken, with a handle that was none, and nothing of who had it.
func TestSlotAgain(t *testing.T) {
	s := begin(t, code(does(spawn(1, 0, 1), spawn(2, 0, 1), spawn(3, 0, 1), one(api.Detach, 2), one(api.Detach, 1), spawn(4, 0, 2), spawn(5, 0, 2)), does(set(5, 6), soil(), one(api.Exit, 5)), does()))
	runs(t, s, 0, wakes(1), wakes(2), wakes(3), nothing)
	runs(t, s, 2, nothing, nothing, ends)
	runs(t, s, 1, nothing, nothing, ends)
	runs(t, s, 0, nothing, wakes(1))
	looks(t, s, 1, api.Thread{Handle: 2*65536 + 2, Func: 2})
	runs(t, s, 0, wakes(2))
	looks(t, s, 2, api.Thread{Handle: 2*65536 + 3, Func: 2})
	runs(t, s, 1, ends)
	is(t, s, 1, api.Finished) // a slot's new thread is not detached
}

// P10.1: Self is a thread's own handle; Yield does nothing; both have the error be OK.
func TestSelfYield(t *testing.T) {
	s := begin(t, code(does(spawn(1, 0, 1), one(api.Self, 2)), does(soil(), one(api.Self, 3), soil(), one(api.Self, 7), soil(), one(api.Yield, 0))))
	runs(t, s, 0, wakes(1), nothing)
	has(t, s, 0, 2, first)
	runs(t, s, 1, nothing, nothing)
	looks(t, s, 1, api.Thread{Handle: second, Func: 1, PC: 2, Regs: regs(3, second)})
	runs(t, s, 1, nothing, nothing)
	looks(t, s, 1, api.Thread{Handle: second, Func: 1, PC: 4, Regs: regs(3, second)})
	runs(t, s, 1, nothing, yields)
	looks(t, s, 1, api.Thread{Handle: second, Func: 1, PC: 6, Regs: regs(3, second)})
	toldLast(t, s, did(first, api.Self, 0, first), did(second, api.Self, 0, second), did(second, api.Self, 0, second), did(second, api.Yield, 0, 0))
}

// P10.1: Exit ends a thread with A's word; it leaves the error, and is passed.
func TestExit(t *testing.T) {
	for a := range api.Regs {
		s := begin(t, code(does(soil(), set(a, 1<<63+5), one(api.Exit, a), one(api.Print, 0))))
		passes(t, s, 0, 2)
		x, _ := s.Look(0)
		runs(t, s, 0, ends)
		x.Why, x.Value, x.PC = api.Finished, 1<<63+5, 3
		looks(t, s, 0, x)
		tells(t, s, did(first, api.Exit, 1<<63+5, 0))
		is(t, s, 0, api.Finished)
		tells(t, s, did(first, api.Exit, 1<<63+5, 0))
	}
}

// P10.1: where there is no next instruction Exit with X 0 is told, whatever register 0 has; nothing is passed.
func TestNoNext(t *testing.T) {
	s := begin(t, code(does(soil(), set(0, 4))))
	if c := s.Class(0); c != 1 {
		t.Errorf("Class(0) is %d", c)
	}
	passes(t, s, 0, 2)
	if c := s.Class(0); c != 2 {
		t.Errorf("Class(0) is %d", c)
	}
	runs(t, s, 0, ends)
	looks(t, s, 0, api.Thread{Handle: first, Why: api.Finished, PC: 2, Regs: regs(0, 4, 7, stale)})
	tells(t, s, did(first, api.Exit, 0, 0))
	for _, p := range []api.Program{code(nil), code(does())} {
		s := begin(t, p)
		runs(t, s, 0, ends)
		looks(t, s, 0, api.Thread{Handle: first, Why: api.Finished})
		tells(t, s, did(first, api.Exit, 0, 0))
	}
}

// P10.1: Join of one that has ended is its Value at once, and its slot is free.
func TestJoinEnded(t *testing.T) {
	for _, a := range []int{0, 1, 2, 7} {
		s := begin(t, code(does(set(3, 8), spawn(1, 3, 1), soil(), two(api.Join, a, 1), two(api.Join, a, 1)), does(one(api.Exit, 0))))
		runs(t, s, 0, nothing, wakes(1), nothing)
		runs(t, s, 1, ends)
		looks(t, s, 1, api.Thread{Handle: second, Why: api.Finished, Func: 1, PC: 1, Regs: regs(0, 8), Value: 8})
		runs(t, s, 0, nothing)
		wanted := regs(1, second, 3, 8)
		wanted[a] = 8
		wanted[7] = 0
		looks(t, s, 0, api.Thread{Handle: first, PC: 4, Regs: wanted})
		toldLast(t, s, did(second, api.Exit, 8, 0), did(first, api.Join, second, 8))
		looksNot(t, s, 1)
	}
}

// P10.1: Join of one that has not ended blocks; the error is set when it goes on, behind the Value.
func TestJoinBlocks(t *testing.T) {
	for _, a := range []int{0, 1, 2, 7} {
		s := begin(t, code(does(set(3, 8), spawn(1, 3, 1), soil(), two(api.Join, a, 1)), does(one(api.Yield, 0), one(api.Exit, 0))))
		runs(t, s, 0, nothing, wakes(1), nothing, stops)
		looks(t, s, 0, api.Thread{Handle: first, Why: api.OnJoin, PC: 4, Regs: regs(1, second, 3, 8, 7, stale)})
		is(t, s, 0, api.OnJoin)
		readyAre(t, s, 1)
		toldLast(t, s, began(first, api.Join, second, 0))
		runs(t, s, 1, yields)
		is(t, s, 0, api.OnJoin)
		runs(t, s, 1, endsAndWakes(0))
		wanted := regs(1, second, 3, 8)
		wanted[a] = 8
		wanted[7] = 0
		looks(t, s, 0, api.Thread{Handle: first, PC: 4, Regs: wanted})
		toldLast(t, s, did(second, api.Exit, 8, 0), ended(first, api.Join, 8))
		looksNot(t, s, 1)
		readyAre(t, s, 0)
	}
}

// P10.1: Join and Detach are ErrNone of what is nobody's handle, the thread's own, or a detached one's; A stays.
func TestJoinDetachNobody(t *testing.T) {
	for _, op := range []int{api.Join, api.Detach} {
		i := two(api.Join, 5, 4)
		if op == api.Detach {
			i = one(api.Detach, 4)
		}
		for _, handle := range []uint64{0, 1, 2, 65536, first, first - 1, first + 65536, second, third, fourth, second + 1<<32, 65536 + 17, 1 << 63, math.MaxUint64} {
			s := begin(t, code(does(spawn(1, 0, 1), one(api.Detach, 1), spawn(2, 0, 2), two(api.Join, 3, 2), set(5, 6), soil(), set(4, handle), i), does(), does()))
			runs(t, s, 0, wakes(1), nothing, wakes(2))
			runs(t, s, 2, ends)
			passes(t, s, 0, 5)
			looks(t, s, 0, api.Thread{Handle: first, PC: 8, Regs: regs(1, second, 2, third, 4, handle, 5, 6, 7, uint64(api.ErrNone))})
			toldLast(t, s, failed(first, op, handle, 0, api.ErrNone))
			is(t, s, 1, api.Runs)
		}
	}
}

// P10.1: Join and Detach are ErrBusy of one that someone joins; the one who joins goes on as ever.
func TestJoinDetachBusy(t *testing.T) {
	for _, op := range []int{api.Join, api.Detach} {
		i := two(api.Join, 5, 0)
		if op == api.Detach {
			i = one(api.Detach, 0)
		}
		s := begin(t, code(does(spawn(1, 0, 1), spawn(2, 1, 2), two(api.Join, 3, 1)), does(), does(soil(), set(5, 6), i)))
		runs(t, s, 0, wakes(1), wakes(2), stops)
		runs(t, s, 2, nothing, nothing, nothing)
		looks(t, s, 2, api.Thread{Handle: third, Func: 2, PC: 3, Regs: regs(0, second, 5, 6, 7, uint64(api.ErrBusy))})
		toldLast(t, s, failed(third, op, second, 0, api.ErrBusy))
		runs(t, s, 1, endsAndWakes(0))
	}
}

// P10.1: Detach frees the slot of one that has ended; another one's is free when it ends.
func TestDetach(t *testing.T) {
	s := begin(t, code(does(spawn(1, 0, 1), spawn(2, 0, 1), soil(), one(api.Detach, 1), soil(), one(api.Detach, 2), one(api.Detach, 1)), does(set(3, 4), one(api.Exit, 3))))
	runs(t, s, 0, wakes(1), wakes(2), nothing)
	runs(t, s, 1, nothing, ends)
	is(t, s, 1, api.Finished)
	runs(t, s, 0, nothing)
	looksNot(t, s, 1)
	has(t, s, 0, 7, 0)
	has(t, s, 0, 1, second)
	toldLast(t, s, did(first, api.Detach, second, 0))
	runs(t, s, 0, nothing, nothing)
	is(t, s, 2, api.Runs)
	has(t, s, 0, 7, 0)
	toldLast(t, s, did(first, api.Detach, third, 0))
	runs(t, s, 0, nothing)
	toldLast(t, s, failed(first, api.Detach, second, 0, api.ErrNone))
	runs(t, s, 2, nothing, ends)
	looksNot(t, s, 2)
	toldLast(t, s, did(third, api.Exit, 4, 0))
	readyAre(t, s, 0)
}

// P10.1: who joins may be joined: each goes on when the other one has ended.
func TestJoinOfJoiner(t *testing.T) {
	s := begin(t, code(does(one(api.Self, 0), spawn(1, 0, 1), two(api.Join, 2, 1)), does(spawn(1, 0, 2), two(api.Join, 2, 1), one(api.Exit, 2)), does(two(api.Join, 3, 0), one(api.Exit, 3))))
	runs(t, s, 0, nothing, wakes(1), stops)
	runs(t, s, 1, wakes(2), stops)
	runs(t, s, 2, stops) // a ring of three: nobody may run
	readyAre(t, s)
	for slot := range 3 {
		is(t, s, slot, api.OnJoin)
	}
	ticks(t, s)
	finishesNot(t, s, api.ErrNone)
	toldLast(t, s, began(first, api.Join, second, 0), did(second, api.Spawn, 2, third), began(second, api.Join, third, 0), began(third, api.Join, first, 0))
}
