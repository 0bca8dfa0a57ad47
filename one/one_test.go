package one_test

import (
	"math"
	"slices"
	"testing"

	"drawknife/api"
	"drawknife/inst"
	"drawknife/one"
)

// plainly is a program that may be, with a number of words to be known by.
func plainly(words int) api.Program {
	p := code(does(set(1, uint64(words)), does1(api.Print, 1)))
	p.Words = words
	return p
}

// many is so many programs that may be.
func many(count int) []api.Program {
	var list []api.Program
	for k := range count {
		list = append(list, plainly(k))
	}
	return list
}

// wrong is programs that may not be.
func wrong() []api.Program {
	return []api.Program{
		{}, {Funcs: make([][]api.Instr, api.MaxFuncs+1)}, {Funcs: make([][]api.Instr, 1), Words: -1},
		{Funcs: make([][]api.Instr, 1), Prio: api.MaxPrio + 1}, {Funcs: make([][]api.Instr, 1), Pipes: []int{0}},
		code(does(does1(0, 0))), code(does(set(8, 0))), code(does(on(api.Lock, 0))), code(does(spawn(0, 0, 1))),
	}
}

// P11.1: New answers ErrArg, and no model, of no programs and of more than MaxSpaces, also if one of them may not be.
func TestNewCounts(t *testing.T) {
	lists := [][]api.Program{nil, {}, many(2)[:0]}
	for _, count := range []int{api.MaxSpaces + 1, api.MaxSpaces + 2, 2 * api.MaxSpaces, 256, 1000} {
		lists = append(lists, slices.Repeat(many(1), count), make([]api.Program, count))
	}
	for _, p := range wrong() {
		lists = append(lists, append([]api.Program{p}, many(api.MaxSpaces)...), append(many(api.MaxSpaces), p))
	}
	for _, list := range lists {
		if o, e := one.New(list); o != nil || e != api.ErrArg {
			t.Errorf("New of %d programs is %v, %d", len(list), o, e)
		}
	}
}

// P11.1: New answers the error of the first program that has one, wherever it is, and no model.
func TestNewRefuses(t *testing.T) {
	for at := range api.MaxSpaces {
		for _, p := range wrong() {
			list := many(api.MaxSpaces)
			list[at] = p
			refusesNew(t, list, inst.Check(p))
			refusesNew(t, list[:at+1], inst.Check(p))
			for _, later := range wrong() {
				for k := at + 1; k < len(list); k++ {
					list[k] = later
				}
				refusesNew(t, list, inst.Check(p))
			}
		}
	}
	capped, coded := wrong()[0], wrong()[len(wrong())-1]
	refusesNew(t, []api.Program{plainly(0), capped, coded}, api.ErrCap)
	refusesNew(t, []api.Program{coded, capped, plainly(0)}, api.ErrCode)
}

// refusesNew asks for an error of New.
func refusesNew(t *testing.T, list []api.Program, wanted api.Errno) {
	t.Helper()
	if o, e := one.New(list); o != nil || e != wanted || e == api.OK {
		t.Fatalf("New(%v) is %v, %d; not nil, %d", list, o, e, wanted)
	}
}

// P11.1: there is one space for each program, in order, each at its beginning.
func TestNewSpaces(t *testing.T) {
	for count := 1; count <= api.MaxSpaces; count++ {
		o := begin(t, many(count)...)
		for k := range count {
			remembers(t, o, k, make([]uint64, k)...)
			looks(t, o, k, 0, api.Thread{Handle: first})
			readyAre(t, o, k, 0)
			tells(t, o, k)
		}
		for k := range count {
			acts(t, o, run(k, 0), run(k, 0))
			tells(t, o, k, record(first, api.Print, uint64(k), 0))
		}
		for _, k := range noSpaces(count) {
			hasNot(t, o, k)
		}
	}
}

// hasNot asks that a space is not there.
func hasNot(t *testing.T, o *one.One, space int) {
	t.Helper()
	if s := o.Space(space); s != nil || !sameView(viewOf(o, space), nobody()) {
		t.Fatalf("space %d is %v, %+v", space, s, viewOf(o, space))
	}
	for _, n := range ends() {
		refuses(t, o, api.ErrArg, runBy(space, 0, n), runBy(space, n, 0), doneBy(space, n))
	}
}

// P11.1: programs of each priority may stand beside each other.
func TestPriorities(t *testing.T) {
	list := many(api.MaxSpaces)
	for k := range list {
		list[k].Prio = api.MaxPrio - k
	}
	o := begin(t, list...)
	for k := range list {
		acts(t, o, run(k, 0))
	}
}

// P11.1 and R4: programs are neither changed nor kept, nor is the room beside them.
func TestProgramsAreTheCallers(t *testing.T) {
	funcs := [][]api.Instr{does(set(1, 7), does1(api.Print, 1), does1(api.Print, 1))[:2]}
	list := append(many(3), plainly(9))[:3]
	list[1] = api.Program{Funcs: funcs, Sems: []int{1}, Pipes: []int{1}, Words: 2}
	o := begin(t, list...)
	if !slices.Equal(funcs[0][:3], does(set(1, 7), does1(api.Print, 1), does1(api.Print, 1))) || list[:4][3].Words != 9 || list[1].Words != 2 {
		t.Errorf("the programs are %v now", list[:4])
	}
	funcs[0][0], funcs[0][1] = does1(api.Exit, 0), does1(api.Exit, 0)
	funcs[0] = nil
	list[0], list[1], list[2] = api.Program{}, api.Program{}, api.Program{}
	acts(t, o, run(1, 0), run(1, 0))
	tells(t, o, 1, record(first, api.Print, 7, 0))
	remembers(t, o, 1, 0, 0)
	remembers(t, o, 2, 0, 0)
}

// P11.1: Do answers ErrArg of another Kind, by which nothing changes, also where there is no such space.
func TestOtherKinds(t *testing.T) {
	o := begin(t, sleeper(1), reader())
	acts(t, o, run(0, 0), run(0, 0), run(1, 0))
	for _, kind := range []int{math.MinInt, -1 << 32, -1, 0, 4, 5, 6, 1<<32 + 1, 1<<32 + 2, 1<<32 + 3, 257, math.MaxInt} {
		for _, space := range ends() {
			refuses(t, o, api.ErrArg, api.Act{Kind: kind, Space: space})
			refuses(t, o, api.ErrArg, api.Act{Kind: kind, Space: space, Thread: 1, Choice: -1})
		}
	}
}

// sleeper is a program that sleeps so many moments, and tells of it.
func sleeper(moments uint64) api.Program {
	return code(does(set(1, moments), does1(api.Sleep, 1), does1(api.Print, 1)))
}

// reader is a program that reads a block.
func reader() api.Program {
	p := code(does(does2(api.Read, 1, 0)))
	p.Blocks = 1
	return p
}

// P11.1: ActRun is a thread's next instruction: ErrArg of nobody, ErrBusy of one that does not run; nothing changes beside an error.
func TestRun(t *testing.T) {
	p := code(does(spawn(1, 0, 1), does2(api.Join, 2, 1), does1(api.Print, 2)), does(set(0, 4), does1(api.Exit, 0)))
	o := begin(t, p, p, p)
	acts(t, o, run(1, 0))
	readyAre(t, o, 0, 0)
	readyAre(t, o, 1, 0, 1)
	readyAre(t, o, 2, 0)
	refuses(t, o, api.ErrArg, run(0, 1), run(1, 2), run(2, 1), run(1, -1), run(1, api.MaxThreads), run(1, math.MinInt), run(1, math.MaxInt))
	acts(t, o, run(1, 0))
	readyAre(t, o, 1, 1)
	refuses(t, o, api.ErrBusy, run(1, 0), runBy(1, 0, math.MinInt), runBy(1, 0, math.MaxInt))
	acts(t, o, run(1, 1), run(1, 1), run(1, 0))
	refuses(t, o, api.ErrArg, run(1, 1))
	tells(t, o, 1, record(first, api.Spawn, 1, second), api.Record{Thread: first, Op: api.Join, X: second}, record(second, api.Exit, 4, 0),
		record(first, api.Join, 0, 4), record(first, api.Print, 4, 0))
	tells(t, o, 0)
	tells(t, o, 2)
	acts(t, o, run(1, 0))
	refuses(t, o, api.ErrBusy, run(1, 0))
	looks(t, o, 1, 0, api.Thread{Handle: first, Why: api.Finished, PC: 3, Regs: api.Regs8{0, second, 4}})
}

// meeting is a program of which three threads come to wait for mutex 0, which the first one has.
func meeting() api.Program {
	p := code(does(on(api.Lock, 0), spawn(1, 0, 1), spawn(1, 0, 1), spawn(1, 0, 1), on(api.Unlock, 0)), does(on(api.Lock, 0)))
	p.Mutexes = 1
	return p
}

// P11.1: ActRun is done with its Choice, in its space.
func TestRunChoice(t *testing.T) {
	for choice, next := range map[int]int{0: 1, 1: 2, 2: 3, 3: 1, -1: 3, -2: 2, -3: 1, math.MaxInt: 2, math.MinInt: 2} {
		o := begin(t, meeting(), meeting())
		for space := range 2 {
			acts(t, o, times(4, run(space, 0))...)
			acts(t, o, run(space, 1), run(space, 2), run(space, 3))
		}
		acts(t, o, runBy(1, 0, choice))
		readyAre(t, o, 0, 0)
		readyAre(t, o, 1, 0, next)
		acts(t, o, run(0, 0))
		readyAre(t, o, 0, 0, 1)
	}
}

// reading is a program of which four threads come to read or write a block.
func reading() api.Program {
	p := code(does(spawn(1, 0, 1), spawn(2, 1, 1), spawn(3, 2, 1), does2(api.Read, 4, 0)), does(does2(api.Write, 1, 0), does2(api.Read, 1, 1)))
	p.Blocks = 2
	return p
}

// P11.1: ActDone is a request of a space, by its Choice alone; ErrNone, if none waits there.
func TestDone(t *testing.T) {
	for choice, next := range map[int]int{0: 0, 1: 1, 2: 2, 3: 3, 4: 0, 5: 1, -1: 3, -2: 2, math.MaxInt: 3, math.MinInt: 0} {
		o := begin(t, reading(), reading(), plainly(0))
		for space := range 2 {
			acts(t, o, times(4, run(space, 0))...)
			acts(t, o, run(space, 1), run(space, 2), run(space, 3))
			readyAre(t, o, space)
		}
		acts(t, o, api.Act{Kind: api.ActDone, Space: 1, Thread: choice + 1, Choice: choice})
		readyAre(t, o, 0)
		readyAre(t, o, 1, next)
		acts(t, o, times(3, doneBy(1, 0))...)
		readyAre(t, o, 1, 0, 1, 2, 3)
		refuses(t, o, api.ErrNone, doneBy(1, 0), doneBy(1, choice), doneBy(2, choice))
		acts(t, o, doneBy(0, 0))
		readyAre(t, o, 0, 0)
	}
}

// P11.1: what is read is what was written, of each space apart.
func TestDoneWords(t *testing.T) {
	p := code(does(set(2, 5), does2(api.Write, 0, 2), does2(api.Read, 1, 0), does1(api.Print, 1)))
	p.Blocks = 1
	q := code(does(does2(api.Read, 1, 0), does1(api.Print, 1)))
	q.Blocks = 1
	o := begin(t, p, q)
	acts(t, o, run(0, 0), run(0, 0), doneBy(0, 0), run(0, 0), run(1, 0), doneBy(1, 0), doneBy(0, 0), run(0, 0), run(1, 0))
	tells(t, o, 0, api.Record{Thread: first, Op: api.Write, Y: 5}, record(first, api.Write, 0, 0), api.Record{Thread: first, Op: api.Read}, record(first, api.Read, 0, 5), record(first, api.Print, 5, 0))
	tells(t, o, 1, api.Record{Thread: first, Op: api.Read}, record(first, api.Read, 0, 0), record(first, api.Print, 0, 0))
}

// P11.1: ActTick is a moment of each space, whatever else it has; it is always OK.
func TestTick(t *testing.T) {
	var list []api.Program
	for k := range api.MaxSpaces {
		list = append(list, sleeper(uint64(k+1)))
	}
	o := begin(t, list...)
	for k := range list {
		acts(t, o, run(k, 0), run(k, 0))
		readyAre(t, o, k)
	}
	fields := ends()
	for moment := range api.MaxSpaces {
		for k := range list {
			if slept := k < moment; slept != (len(o.Ready(k)) == 1) {
				t.Fatalf("at moment %d space %d is ready: %v", moment, k, o.Ready(k))
			}
		}
		n := fields[moment%len(fields)]
		acts(t, o, api.Act{Kind: api.ActTick, Space: n, Thread: n, Choice: n})
	}
	for k := range list {
		acts(t, o, run(k, 0))
		tells(t, o, k, api.Record{Thread: first, Op: api.Sleep, X: uint64(k + 1)}, record(first, api.Sleep, 0, 0), record(first, api.Print, uint64(k+1), 0))
	}
	acts(t, o, run(0, 0), tick(), tick()) // also where nobody is left
}

// P11.1: a moment that goes by ahead of a sleep does not count for it; all spaces have one clock.
func TestClock(t *testing.T) {
	o := begin(t, sleeper(3), sleeper(3))
	acts(t, o, run(0, 0), run(0, 0), tick(), run(1, 0), run(1, 0), tick(), tick())
	readyAre(t, o, 0, 0)
	readyAre(t, o, 1)
	acts(t, o, tick())
	readyAre(t, o, 1, 0)
}

// All calls of a nil *One: ErrArg, nothing.
func TestNil(t *testing.T) {
	var o *one.One
	for _, space := range ends() {
		hasNot(t, o, space)
		for kind := -1; kind < 6; kind++ {
			refuses(t, o, api.ErrArg, api.Act{Kind: kind, Space: space, Thread: space, Choice: space})
		}
	}
}

// R1: a model that New did not make has no spaces.
func TestUnmade(t *testing.T) {
	o := &one.One{}
	for _, space := range ends() {
		hasNot(t, o, space)
		refuses(t, o, api.ErrArg, api.Act{Kind: 0, Space: space}, api.Act{Kind: 4, Space: space})
	}
	acts(t, o, tick())
}

// P11.1: Look is of a slot of a space; none of slots that no thread has.
func TestLook(t *testing.T) {
	p := code(does(set(3, 8), spawn(1, 3, 1)), does(), does())
	o := begin(t, plainly(0), p)
	acts(t, o, run(1, 0), run(1, 0), run(0, 0))
	looks(t, o, 0, 0, api.Thread{Handle: first, PC: 1})
	looks(t, o, 1, 0, api.Thread{Handle: first, PC: 2, Regs: api.Regs8{0, second, 0, 8}})
	looks(t, o, 1, 1, api.Thread{Handle: second, Func: 1, Regs: api.Regs8{8}})
	for _, slot := range []int{math.MinInt, -1, 2, 15, 16, 17, 1 << 32, math.MaxInt} {
		for space := range 3 {
			if x, ok := o.Look(space, slot); x != (api.Thread{}) || ok {
				t.Errorf("Look(%d, %d) is %+v, %t", space, slot, x, ok)
			}
		}
	}
	if x, ok := o.Look(0, 1); x != (api.Thread{}) || ok {
		t.Errorf("Look(0, 1) is %+v, %t", x, ok)
	}
}

// P11.1: Memory is of each space apart.
func TestMemory(t *testing.T) {
	stores := func(at, word uint64) api.Program {
		p := code(does(set(1, at), set(2, word), does2(api.Store, 1, 2)))
		p.Words = 2
		return p
	}
	o := begin(t, stores(0, 3), stores(1, 4), stores(0, 5))
	acts(t, o, times(3, run(1, 0))...)
	remembers(t, o, 0, 0, 0)
	remembers(t, o, 1, 0, 4)
	remembers(t, o, 2, 0, 0)
	acts(t, o, times(3, run(0, 0))...)
	remembers(t, o, 0, 3, 0)
	remembers(t, o, 1, 0, 4)
	tells(t, o, 0, record(first, api.Store, 0, 3))
	tells(t, o, 1, record(first, api.Store, 1, 4))
	tells(t, o, 2)
}

// R4: what is answered is new memory, spare room included.
func TestAnswersAreTheCallers(t *testing.T) {
	p := code(does(does2(api.Store, 0, 0), does1(api.Print, 0), does1(api.Print, 0), spawn(1, 0, 1), does2(api.Store, 0, 1)), does())
	p.Words = 2
	o := begin(t, p, p)
	acts(t, o, times(4, run(1, 0))...)
	ahead := whole(o)
	for range 2 {
		records, memory, ready := o.Records(1), o.Memory(1), o.Ready(1)
		records, memory, ready = records[:cap(records)], memory[:cap(memory)], ready[:cap(ready)]
		for k := range records {
			records[k] = api.Record{Op: 99}
		}
		for k := range memory {
			memory[k] = 99
		}
		for k := range ready {
			ready[k] = 99
		}
		if !slices.EqualFunc(ahead, whole(o), sameView) {
			t.Fatalf("%+v became %+v", ahead, whole(o))
		}
	}
	records, memory, ready := o.Records(1), o.Memory(1), o.Ready(1)
	acts(t, o, run(1, 0), run(1, 0), run(1, 1))
	if len(records) != 4 || !slices.Equal(memory, []uint64{0, 0}) || !slices.Equal(ready, []int{0, 1}) {
		t.Errorf("answers went on: %v, %v, %v", records, memory, ready)
	}
	remembers(t, o, 1, second, 0)
}

// P11.1: Space is the thing itself: what is done to it the model sees, and the other way round.
func TestSpaceItself(t *testing.T) {
	o := begin(t, many(3)...)
	s := o.Space(1)
	if s == nil || s != o.Space(1) || s == o.Space(0) || s == o.Space(2) {
		t.Fatalf("Space(1) is %p, then %p, and the others %p, %p", s, o.Space(1), o.Space(0), o.Space(2))
	}
	if _, e := s.Run(0, 0); e != api.OK {
		t.Fatalf("Run is %d", e)
	}
	acts(t, o, run(1, 0))
	tells(t, o, 1, record(first, api.Print, 1, 0))
	for k := range 3 {
		if !sameView(viewOf(o, k), viewAlone(o.Space(k))) {
			t.Errorf("space %d is %+v, not %+v", k, viewOf(o, k), viewAlone(o.Space(k)))
		}
	}
}

// R5: two models of the same programs have nothing to do with each other.
func TestTwoModels(t *testing.T) {
	o, twin := begin(t, meeting(), reading(), sleeper(1)), begin(t, meeting(), reading(), sleeper(1))
	ahead := whole(twin)
	acts(t, o, run(0, 0), run(0, 0), run(1, 0), run(2, 0), run(2, 0), tick())
	if !slices.EqualFunc(ahead, whole(twin), sameView) || twin.Space(0) == o.Space(0) {
		t.Errorf("the twin of %+v became %+v", ahead, whole(twin))
	}
	acts(t, twin, run(0, 0), run(0, 0), run(1, 0), run(2, 0), run(2, 0), tick())
	if !slices.EqualFunc(whole(o), whole(twin), sameView) {
		t.Errorf("%+v is not %+v", whole(o), whole(twin))
	}
}
