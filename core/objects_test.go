package core_test

import (
	"math"
	"slices"
	"testing"

	"drawknife/api"
	"drawknife/core"
	"drawknife/inst"
)

// crowd is a program whose thread 0 begins so many threads at function 1, with words from 0 on, and then does a list.
func crowd(count int, others []api.Instr, list ...api.Instr) api.Program {
	begin := []api.Instr{set(6, 1)}
	for range count {
		begin = append(begin, spawn(1, 5, 1), api.Instr{Op: api.Add, A: 5, B: 5, C: 6})
	}
	return all(append(begin, list...), others)
}

// gathers begins a crowd.
func gathers(t *testing.T, count int, others []api.Instr, list ...api.Instr) *core.Space {
	t.Helper()
	s := begin(t, crowd(count, others, list...))
	passes(t, s, 0, 1)
	for slot := 1; slot <= count; slot++ {
		runs(t, s, 0, wakes(slot), nothing)
	}
	return s
}

// P10.1: Lock has a mutex, or blocks; Unlock gives it to the one by choice.
func TestMutex(t *testing.T) {
	for choice, wanted := range map[int]int{0: 1, 1: 2, 2: 3, 3: 1, -1: 3, -2: 2, math.MaxInt: 2, math.MinInt: 2} {
		s := gathers(t, 3, does(soil(), on(api.Lock, 3)), soil(), on(api.Lock, 3), soil(), on(api.Unlock, 3))
		passes(t, s, 0, 2)
		has(t, s, 0, 7, 0)
		toldLast(t, s, did(first, api.Lock, 3, 0))
		for slot := 1; slot <= 3; slot++ {
			runs(t, s, slot, nothing, stops)
			is(t, s, slot, api.OnMutex)
			has(t, s, slot, 7, stale)
			toldLast(t, s, began(65537+uint64(slot), api.Lock, 3, 0))
		}
		passes(t, s, 0, 1)
		runsBy(t, s, 0, choice, wakes(wanted))
		toldLast(t, s, did(first, api.Unlock, 3, 0), ended(65537+uint64(wanted), api.Lock, 0))
		for slot := 1; slot <= 3; slot++ {
			x := api.Thread{Handle: 65537 + uint64(slot), Why: api.OnMutex, Func: 1, PC: 2, Regs: regs(0, uint64(slot)-1, 7, stale)}
			if slot == wanted {
				x.Why, x.Regs[7] = api.Runs, 0
			}
			looks(t, s, slot, x)
		}
		has(t, s, 0, 7, 0)
	}
}

// P10.1: a mutex that a thread has is ErrBusy to it, one that it has not is ErrOwner; both set the error.
func TestMutexErrors(t *testing.T) {
	s := gathers(t, 1, does(on(api.Unlock, 0), on(api.Lock, 1), on(api.Unlock, 1)), on(api.Lock, 0), on(api.Lock, 0), on(api.Unlock, 0), on(api.Unlock, 0))
	runs(t, s, 0, nothing)
	runs(t, s, 1, nothing)
	has(t, s, 1, 7, uint64(api.ErrOwner))
	toldLast(t, s, failed(second, api.Unlock, 0, 0, api.ErrOwner))
	runs(t, s, 0, nothing)
	has(t, s, 0, 7, uint64(api.ErrBusy))
	toldLast(t, s, failed(first, api.Lock, 0, 0, api.ErrBusy))
	runs(t, s, 0, nothing)
	has(t, s, 0, 7, 0)
	toldLast(t, s, did(first, api.Unlock, 0, 0))
	runs(t, s, 0, nothing)
	has(t, s, 0, 7, uint64(api.ErrOwner))
	toldLast(t, s, failed(first, api.Unlock, 0, 0, api.ErrOwner))
	runs(t, s, 1, nothing, nothing)
	has(t, s, 1, 7, 0)
}

// P10.1: objects know threads by slots: what an ended one had, the next one in its slot has.
func TestMutexOfEnded(t *testing.T) {
	s := begin(t, all(does(spawn(1, 0, 1), two(api.Join, 2, 1), spawn(1, 0, 2)), does(on(api.Lock, 2)), does(on(api.Lock, 2), on(api.Unlock, 2))))
	runs(t, s, 0, wakes(1))
	runs(t, s, 1, nothing, ends)
	runs(t, s, 0, nothing, wakes(1))
	runs(t, s, 1, nothing)
	has(t, s, 1, 7, uint64(api.ErrBusy))
	runs(t, s, 1, nothing)
	has(t, s, 1, 7, 0)
}

// P10.1: Wait gives a mutex to the one by choice, and blocks; without the mutex it is ErrOwner at once.
func TestWait(t *testing.T) {
	s := gathers(t, 3, does(on(api.Lock, 2)), soil(), wait(1, 2), on(api.Lock, 2), soil(), wait(1, 2))
	passes(t, s, 0, 2)
	has(t, s, 0, 7, uint64(api.ErrOwner))
	toldLast(t, s, failed(first, api.Wait, 1, 2, api.ErrOwner))
	passes(t, s, 0, 2)
	for slot := 1; slot <= 3; slot++ {
		runs(t, s, slot, stops)
	}
	runsBy(t, s, 0, -2, stopsAndWakes(2))
	is(t, s, 0, api.OnCond)
	has(t, s, 0, 7, stale)
	is(t, s, 1, api.OnMutex)
	is(t, s, 2, api.Runs)
	is(t, s, 3, api.OnMutex)
	toldLast(t, s, began(first, api.Wait, 1, 2), ended(third, api.Lock, 0))
}

// waiters are three threads that wait for condition 0, of which slots 1 and 3 gave up mutex 0, slot 2 mutex 1.
func waiters(t *testing.T, list ...api.Instr) *core.Space {
	t.Helper()
	s := begin(t, all(append(does(spawn(1, 0, 1), spawn(1, 0, 2), spawn(1, 0, 1), soil()), list...),
		does(on(api.Lock, 0), soil(), wait(0, 0)), does(on(api.Lock, 1), soil(), wait(0, 1))))
	runs(t, s, 0, wakes(1), wakes(2), wakes(3), nothing)
	for slot := 1; slot <= 3; slot++ {
		runs(t, s, slot, nothing, nothing, stops)
		is(t, s, slot, api.OnCond)
	}
	return s
}

// P10.1: Signal has one go on, by choice, if its mutex is nobody's.
func TestSignal(t *testing.T) {
	for choice, wanted := range map[int]int{0: 1, 1: 2, 2: 3, 3: 1, -1: 3, math.MaxInt: 2, math.MinInt: 2} {
		s := waiters(t, on(api.Signal, 0))
		runsBy(t, s, 0, choice, wakes(wanted))
		has(t, s, 0, 7, 0)
		for slot := 1; slot <= 3; slot++ {
			x := api.Thread{Handle: 65537 + uint64(slot), Why: api.OnCond, Func: 1, PC: 3, Regs: regs(7, stale)}
			if slot == wanted {
				x.Why, x.Regs[7] = api.Runs, 0
			}
			if slot == 2 {
				x.Func = 2
			}
			looks(t, s, slot, x)
		}
		toldLast(t, s, did(first, api.Signal, 0, 0), ended(65537+uint64(wanted), api.Wait, 0))
	}
}

// P10.1: a Signal that nobody waits for, and one of another condition, does nothing.
func TestSignalOthers(t *testing.T) {
	s := waiters(t, on(api.Signal, 1), on(api.Broadcast, 3), on(api.Signal, 2))
	runs(t, s, 0, nothing)
	has(t, s, 0, 7, 0)
	runs(t, s, 0, nothing, nothing)
	toldLast(t, s, did(first, api.Signal, 1, 0), did(first, api.Broadcast, 3, 0), did(first, api.Signal, 2, 0))
	for slot := 1; slot <= 3; slot++ {
		is(t, s, slot, api.OnCond)
	}
}

// P10.1: one that a Signal makes wait for its mutex is OnMutex, is told of nothing, and goes on when it has it.
func TestSignalToMutex(t *testing.T) {
	s := waiters(t, on(api.Lock, 0), on(api.Signal, 0), soil(), on(api.Unlock, 0))
	runs(t, s, 0, nothing)
	runsBy(t, s, 0, 2, nothing)
	toldLast(t, s, did(first, api.Lock, 0, 0), did(first, api.Signal, 0, 0))
	is(t, s, 1, api.OnCond)
	is(t, s, 2, api.OnCond)
	is(t, s, 3, api.OnMutex)
	has(t, s, 3, 7, stale)
	runs(t, s, 0, nothing, wakes(3))
	has(t, s, 3, 7, 0)
	toldLast(t, s, did(first, api.Unlock, 0, 0), ended(fourth, api.Wait, 0))
	is(t, s, 3, api.Runs)
}

// P10.1: Broadcast has all go on, or wait for their mutexes, in order; choices count for nothing.
func TestBroadcast(t *testing.T) {
	for _, choice := range []int{0, 1, 2, -1, math.MaxInt, math.MinInt} {
		s := waiters(t, on(api.Broadcast, 0))
		runsBy(t, s, 0, choice, wakes(1, 2))
		has(t, s, 0, 7, 0)
		toldLast(t, s, did(first, api.Broadcast, 0, 0), ended(second, api.Wait, 0), ended(third, api.Wait, 0))
		is(t, s, 1, api.Runs)
		is(t, s, 2, api.Runs)
		is(t, s, 3, api.OnMutex)
	}
	s := waiters(t, on(api.Lock, 0), on(api.Lock, 1), on(api.Broadcast, 0), on(api.Unlock, 1), on(api.Unlock, 0))
	runs(t, s, 0, nothing, nothing, nothing)
	for slot := 1; slot <= 3; slot++ {
		is(t, s, slot, api.OnMutex)
	}
	runs(t, s, 0, wakes(2))
	runsBy(t, s, 0, 1, wakes(3))
	is(t, s, 1, api.OnMutex)
}

// P10.1: a Wait may wake one that a Signal made wait for the mutex.
func TestWaitWakesSignalled(t *testing.T) {
	s := waiters(t, on(api.Lock, 0), on(api.Signal, 0), wait(3, 0))
	runs(t, s, 0, nothing, nothing, stopsAndWakes(1))
	toldLast(t, s, began(first, api.Wait, 3, 0), ended(second, api.Wait, 0))
	is(t, s, 0, api.OnCond)
}

// P10.1: Down takes one, or blocks; Up has the one by choice go on.
func TestSemaphore(t *testing.T) {
	for choice, wanted := range map[int]int{0: 2, 1: 3, 2: 2, -1: 3, math.MaxInt: 3, math.MinInt: 2} {
		s := gathers(t, 3, does(soil(), on(api.Down, 1)), soil(), on(api.Up, 1), soil(), on(api.Up, 1))
		runs(t, s, 1, nothing, nothing)
		has(t, s, 1, 7, 0)
		toldLast(t, s, did(second, api.Down, 1, 0))
		for slot := 2; slot <= 3; slot++ {
			runs(t, s, slot, nothing, stops)
			is(t, s, slot, api.OnSem)
			has(t, s, slot, 7, stale)
			toldLast(t, s, began(65537+uint64(slot), api.Down, 1, 0))
		}
		passes(t, s, 0, 1)
		runsBy(t, s, 0, choice, wakes(wanted))
		has(t, s, 0, 7, 0)
		has(t, s, wanted, 7, 0)
		toldLast(t, s, did(first, api.Up, 1, 0), ended(65537+uint64(wanted), api.Down, 0))
		is(t, s, 5-wanted, api.OnSem)
		runs(t, s, 0, nothing, wakes(5-wanted))
	}
}

// P10.1: counts are the program's; at MaxCount Up is ErrFull.
func TestCounts(t *testing.T) {
	s := begin(t, all(does(soil(), on(api.Up, 3), on(api.Down, 3), on(api.Up, 3), on(api.Up, 3), on(api.Down, 2), on(api.Down, 2), on(api.Up, 0), on(api.Down, 0), on(api.Down, 2))))
	passes(t, s, 0, 2)
	has(t, s, 0, 7, uint64(api.ErrFull))
	toldLast(t, s, failed(first, api.Up, 3, 0, api.ErrFull))
	passes(t, s, 0, 2)
	has(t, s, 0, 7, 0)
	passes(t, s, 0, 1)
	has(t, s, 0, 7, uint64(api.ErrFull))
	passes(t, s, 0, 4)
	runs(t, s, 0, stops)
	is(t, s, 0, api.OnSem)
	toldLast(t, s, did(first, api.Up, 0, 0), did(first, api.Down, 0, 0), began(first, api.Down, 2, 0))
}

// P10.1: Read and Write are ErrArg of a word that is no block.
func TestNoBlock(t *testing.T) {
	for _, blocks := range []int{0, 1, api.MaxBlocks} {
		for _, block := range []uint64{uint64(blocks), uint64(blocks) + 1, 1 << 32, 1<<63 - 1, 1 << 63, 1<<63 + 1, math.MaxUint64} {
			p := code(does(set(1, block), set(2, 5), soil(), two(api.Read, 2, 1), soil(), two(api.Write, 1, 2)))
			p.Blocks = blocks
			s := begin(t, p)
			passes(t, s, 0, 4)
			looks(t, s, 0, api.Thread{Handle: first, PC: 4, Regs: regs(1, block, 2, 5, 7, uint64(api.ErrArg))})
			passes(t, s, 0, 2)
			looks(t, s, 0, api.Thread{Handle: first, PC: 6, Regs: regs(1, block, 2, 5, 7, uint64(api.ErrArg))})
			tells(t, s, failed(first, api.Read, block, 0, api.ErrArg), failed(first, api.Write, block, 5, api.ErrArg))
			finishesNot(t, s, api.ErrNone)
		}
	}
}

// P10.2: who asked of the disk goes on when it is done: Read has the word, Write nothing.
func TestDisk(t *testing.T) {
	for _, block := range []uint64{0, 63} {
		s := begin(t, all(does(set(1, block), set(2, 1<<63+1), soil(), two(api.Write, 1, 2), soil(), two(api.Read, 3, 1), soil(), two(api.Read, 7, 1), two(api.Read, 1, 1))))
		finishesNot(t, s, api.ErrNone)
		passes(t, s, 0, 3)
		runs(t, s, 0, stops)
		is(t, s, 0, api.OnDisk)
		looks(t, s, 0, api.Thread{Handle: first, Why: api.OnDisk, PC: 4, Regs: regs(1, block, 2, 1<<63+1, 7, stale)})
		toldLast(t, s, began(first, api.Write, block, 1<<63+1))
		finishes(t, s, 5, 0)
		looks(t, s, 0, api.Thread{Handle: first, PC: 4, Regs: regs(1, block, 2, 1<<63+1)})
		toldLast(t, s, ended(first, api.Write, 0))
		finishesNot(t, s, api.ErrNone)
		runs(t, s, 0, nothing, stops)
		toldLast(t, s, began(first, api.Read, block, 0))
		has(t, s, 0, 3, 0)
		finishes(t, s, -1, 0)
		looks(t, s, 0, api.Thread{Handle: first, PC: 6, Regs: regs(1, block, 2, 1<<63+1, 3, 1<<63+1)})
		toldLast(t, s, ended(first, api.Read, 1<<63+1))
		runs(t, s, 0, nothing, stops)
		finishes(t, s, 0, 0)
		has(t, s, 0, 7, 0)
		toldLast(t, s, ended(first, api.Read, 1<<63+1))
		runs(t, s, 0, stops)
		finishes(t, s, 0, 0)
		has(t, s, 0, 1, 1<<63+1)
	}
}

// P10.2: which request is done is by how many there are, in the order in which they came.
func TestDoneChoice(t *testing.T) {
	for k, wanted := range map[int]int{0: 2, 1: 1, 2: 3, 3: 2, -1: 3, -2: 1, math.MaxInt: 1, math.MinInt: 1} {
		s := gathers(t, 3, does(two(api.Write, 0, 0), two(api.Read, 4, 0)))
		for _, slot := range []int{2, 1, 3} {
			runs(t, s, slot, stops)
		}
		finishes(t, s, k, wanted)
		is(t, s, wanted, api.Runs)
		toldLast(t, s, ended(65537+uint64(wanted), api.Write, 0))
		if n := len(s.Ready()); n != 2 {
			t.Errorf("%d may run", n)
		}
	}
}

// P10.1: Put puts a word in, or blocks where there is no room; who gets one, has it in its A.
func TestPipePut(t *testing.T) {
	s := gathers(t, 1, does(soil(), pipe(api.Get, 4, 1), soil(), pipe(api.Get, 7, 1), pipe(api.Get, 3, 1), pipe(api.Get, 3, 1)),
		set(2, 9), soil(), pipe(api.Put, 2, 1), pipe(api.Put, 6, 1), soil(), pipe(api.Put, 2, 1), one(api.Yield, 0))
	passes(t, s, 0, 3)
	has(t, s, 0, 7, 0)
	toldLast(t, s, did(first, api.Put, 1, 9))
	passes(t, s, 0, 2)
	runs(t, s, 0, stops)
	is(t, s, 0, api.OnPut)
	has(t, s, 0, 7, stale)
	toldLast(t, s, did(first, api.Put, 1, 1), began(first, api.Put, 1, 9))
	runs(t, s, 1, nothing, wakes(0))
	looks(t, s, 1, api.Thread{Handle: second, Func: 1, PC: 2, Regs: regs(4, 9)})
	has(t, s, 0, 7, 0)
	has(t, s, 0, 2, 9)
	toldLast(t, s, did(second, api.Get, 1, 9), ended(first, api.Put, 0))
	runs(t, s, 1, nothing, nothing)
	has(t, s, 1, 7, 0)
	toldLast(t, s, did(second, api.Get, 1, 1))
	runs(t, s, 1, nothing)
	has(t, s, 1, 3, 9)
	runs(t, s, 0, yields)
	runs(t, s, 1, stops)
	is(t, s, 1, api.OnGet)
}

// P10.1: Get blocks where there is no word; who puts one wakes the first who waits, whose A has it then.
func TestPipeGet(t *testing.T) {
	s := gathers(t, 2, does(set(4, 5), soil(), pipe(api.Get, 4, 3), set(4, 5), soil(), pipe(api.Get, 7, 3)), set(2, 8), soil(), pipe(api.Put, 2, 3), set(2, 7), pipe(api.Put, 2, 3), pipe(api.Put, 2, 3))
	for _, slot := range []int{2, 1} {
		runs(t, s, slot, nothing, nothing, stops)
		is(t, s, slot, api.OnGet)
		looks(t, s, slot, api.Thread{Handle: 65537 + uint64(slot), Why: api.OnGet, Func: 1, PC: 3, Regs: regs(0, uint64(slot)-1, 4, 5, 7, stale)})
		toldLast(t, s, began(65537+uint64(slot), api.Get, 3, 0))
	}
	passes(t, s, 0, 2)
	runs(t, s, 0, wakes(2))
	has(t, s, 0, 7, 0)
	looks(t, s, 2, api.Thread{Handle: third, Func: 1, PC: 3, Regs: regs(0, 1, 4, 8)})
	toldLast(t, s, did(first, api.Put, 3, 8), ended(third, api.Get, 8))
	is(t, s, 1, api.OnGet)
	runs(t, s, 0, nothing, wakes(1))
	has(t, s, 1, 4, 7)
	runs(t, s, 2, nothing, nothing, stops)
	runs(t, s, 0, wakes(2))
	looks(t, s, 2, api.Thread{Handle: third, Func: 1, PC: 6, Regs: regs(0, 1, 4, 5)})
	toldLast(t, s, did(first, api.Put, 3, 7), ended(third, api.Get, 7))
}

// P10.1: pipes have the program's room.
func TestPipeRoom(t *testing.T) {
	for n, room := range []int{1, 2, 3, api.MaxPipe} {
		s := begin(t, all(times(9, pipe(api.Put, 0, uint64(n)))))
		passes(t, s, 0, room)
		runs(t, s, 0, stops)
		is(t, s, 0, api.OnPut)
	}
}

// P10.1: Sleep of 0 is over at once; above MaxTime it is ErrArg; else it lasts so many moments.
func TestSleep(t *testing.T) {
	s := begin(t, code(does(soil(), one(api.Sleep, 1), set(1, api.MaxTime+1), one(api.Sleep, 1), set(1, 1<<63), one(api.Sleep, 1), set(1, 1<<63+1), one(api.Sleep, 1), set(1, math.MaxUint64), one(api.Sleep, 1), set(1, 1), soil(), one(api.Sleep, 1), set(1, 3), one(api.Sleep, 1), set(1, api.MaxTime), one(api.Sleep, 1))))
	passes(t, s, 0, 2)
	has(t, s, 0, 7, 0)
	toldLast(t, s, did(first, api.Sleep, 0, 0))
	for _, word := range []uint64{api.MaxTime + 1, 1 << 63, 1<<63 + 1, math.MaxUint64} {
		passes(t, s, 0, 2)
		has(t, s, 0, 7, uint64(api.ErrArg))
		toldLast(t, s, failed(first, api.Sleep, word, 0, api.ErrArg))
	}
	runs(t, s, 0, nothing, nothing, stops)
	is(t, s, 0, api.OnSleep)
	looks(t, s, 0, api.Thread{Handle: first, Why: api.OnSleep, PC: 13, Regs: regs(1, 1, 7, stale)})
	toldLast(t, s, began(first, api.Sleep, 1, 0))
	ticks(t, s, 0)
	looks(t, s, 0, api.Thread{Handle: first, PC: 13, Regs: regs(1, 1)})
	toldLast(t, s, ended(first, api.Sleep, 0))
	runs(t, s, 0, nothing, stops)
	ticks(t, s)
	ticks(t, s)
	ticks(t, s, 0)
	ticks(t, s)
	runs(t, s, 0, nothing, stops)
	for range 100 {
		ticks(t, s)
	}
	is(t, s, 0, api.OnSleep)
}

// P10.2: all that are due go on by one Tick, rising, whoever slept first.
func TestTickRising(t *testing.T) {
	s := gathers(t, 3, does(set(1, 2), one(api.Sleep, 1)))
	for _, slot := range []int{3, 1, 2} {
		runs(t, s, slot, nothing, stops)
	}
	ticks(t, s)
	ticks(t, s, 1, 2, 3)
	toldLast(t, s, ended(second, api.Sleep, 0), ended(third, api.Sleep, 0), ended(fourth, api.Sleep, 0))
	readyAre(t, s, 0, 1, 2, 3)
}

// P10.1: Print tells A's word.
func TestPrint(t *testing.T) {
	for a := range api.Regs {
		s := begin(t, code(does(soil(), set(a, math.MaxUint64-1), one(api.Print, a))))
		passes(t, s, 0, 3)
		wanted := regs(uint64(a), math.MaxUint64-1)
		wanted[7] = 0
		looks(t, s, 0, api.Thread{Handle: first, PC: 3, Regs: wanted})
		tells(t, s, did(first, api.Print, math.MaxUint64-1, 0))
	}
}

// P10.2: Class is that of the next instruction, of each one that there is.
func TestClass(t *testing.T) {
	for op := api.Set; op <= api.Print; op++ {
		s := begin(t, all(does(one(op, 0))))
		if c := s.Class(0); c != inst.Class(op) || c == 0 {
			t.Errorf("Class(0) of %d is %d", op, c)
		}
		for _, slot := range append(noSlots(), 1, 15) {
			if c := s.Class(slot); c != 0 {
				t.Errorf("Class(%d) is %d", slot, c)
			}
		}
	}
}

// P10.2: each one of all instructions is told just if it is Seen, with its own Op.
func TestSeen(t *testing.T) {
	for op := api.Set; op <= api.Print; op++ {
		s := begin(t, all(does(one(op, 0), one(op, 0))))
		s.Run(0, 0)
		list := s.Records()
		if wanted := inst.Seen(op); (len(list) == 1) != wanted || len(list) > 1 || wanted && (list[0].Op != op || list[0].Thread != first) {
			t.Errorf("%d tells %+v", op, list)
		}
	}
}

// All calls of a nil *Space are ErrArg, and nothing.
func TestNil(t *testing.T) {
	var s *core.Space
	for _, slot := range append(noSlots(), 0, 1) {
		refuses(t, s, slot, api.ErrArg)
		looksNot(t, s, slot)
		if c := s.Class(slot); c != 0 {
			t.Errorf("Class(%d) is %d", slot, c)
		}
	}
	finishesNot(t, s, api.ErrArg)
	ticks(t, s)
	readyAre(t, s)
	tells(t, s)
	remembers(t, s)
}

// R1: a Space that nobody made has no threads, and nothing comes of it.
func TestUnmade(t *testing.T) {
	s := &core.Space{}
	for _, slot := range append(noSlots(), 0, 1) {
		refuses(t, s, slot, api.ErrArg)
		looksNot(t, s, slot)
		if c := s.Class(slot); c != 0 {
			t.Errorf("Class(%d) is %d", slot, c)
		}
	}
	finishesNot(t, s, api.ErrNone)
	ticks(t, s)
	readyAre(t, s)
	tells(t, s)
	remembers(t, s)
}

// R4: what is answered is memory of its own, spare room included, and stays as it was.
func TestAnswersAreTheCallers(t *testing.T) {
	s := gathers(t, 2, does(set(1, 1), one(api.Sleep, 1), set(2, 9), two(api.Store, 1, 2), one(api.Print, 2)), on(api.Lock, 0))
	for slot := 1; slot <= 2; slot++ {
		runs(t, s, slot, nothing, stops)
	}
	ready, records, words := s.Ready(), s.Records(), s.Memory()
	woken := s.Tick().Woken
	kept, keptWords := slices.Clone(records), slices.Clone(words)
	runs(t, s, 1, nothing, nothing, nothing)
	if !slices.Equal(records, kept) || !slices.Equal(words, keptWords) || !slices.Equal(ready, []int{0}) || !slices.Equal(woken, []int{1, 2}) {
		t.Fatal("what was answered has changed")
	}
	wanted, wantedWords, wantedReady := slices.Clone(s.Records()), slices.Clone(s.Memory()), s.Ready()
	for _, list := range [][]int{ready[:cap(ready)], woken[:cap(woken)]} {
		for k := range list {
			list[k] = 77
		}
	}
	again, againWords := s.Records(), s.Memory()
	for k := range again[:cap(again)] {
		again[:cap(again)][k] = api.Record{Op: 77}
	}
	for k := range againWords[:cap(againWords)] {
		againWords[:cap(againWords)][k] = 77
	}
	tells(t, s, wanted...)
	remembers(t, s, wantedWords...)
	readyAre(t, s, wantedReady...)
	runs(t, s, 2, nothing, nothing, nothing)
	toldLast(t, s, did(third, api.Store, 1, 9), did(third, api.Print, 9, 0))
}

// R5: two spaces of one program have nothing in common.
func TestApart(t *testing.T) {
	p := all(does(spawn(1, 0, 1), on(api.Lock, 0), set(2, 3), two(api.Store, 2, 2), on(api.Down, 1), pipe(api.Put, 2, 0), two(api.Write, 2, 2), one(api.Sleep, 2)), does())
	s, other := begin(t, p), begin(t, p)
	runs(t, s, 0, wakes(1), nothing, nothing, nothing, nothing, nothing, stops)
	finishes(t, s, 0, 0)
	runs(t, s, 0, stops)
	ticks(t, s)
	finishesNot(t, other, api.ErrNone)
	remembers(t, other, make([]uint64, api.MaxWords)...)
	tells(t, other)
	looks(t, other, 0, api.Thread{Handle: first})
	looksNot(t, other, 1)
	runs(t, other, 0, wakes(1), nothing, nothing, nothing, nothing, nothing, stops)
	finishes(t, other, 0, 0)
	runs(t, other, 0, stops)
	ticks(t, other)
	ticks(t, other)
	ticks(t, other, 0)
	is(t, s, 0, api.OnSleep)
}
