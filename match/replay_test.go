package match_test

import (
	"math"
	"slices"
	"testing"

	"drawknife/api"
	"drawknife/inst"
	"drawknife/match"
)

// P20.1: Replay answers chapter 11's New's error, and no model: of no programs, of too many, of one that may not be.
func TestReplayRefuses(t *testing.T) {
	refuses(t, nil, api.ErrArg)
	refuses(t, []api.Program{}, api.ErrArg)
	refuses(t, []api.Program{prints(1)}[:0], api.ErrArg)
	for _, count := range []int{api.MaxSpaces + 1, api.MaxSpaces + 2, 64, 256} {
		refuses(t, slices.Repeat([]api.Program{prints(1)}, count), api.ErrArg)
		refuses(t, make([]api.Program, count), api.ErrArg)
	}
	for _, p := range wrong() {
		refuses(t, []api.Program{p}, inst.Check(p))
		refuses(t, []api.Program{prints(1), p}, inst.Check(p))
		refuses(t, append(slices.Repeat([]api.Program{prints(1)}, api.MaxSpaces-1), p), inst.Check(p))
		for _, later := range wrong() {
			refuses(t, []api.Program{p, prints(1), later}, inst.Check(p))
		}
	}
	refuses(t, []api.Program{wrong()[0]}, api.ErrCap)
	refuses(t, []api.Program{wrong()[3], wrong()[0]}, api.ErrCode)
}

// P20.1: by no acts it is the model at its beginning.
func TestReplayNothing(t *testing.T) {
	for _, acts := range [][]api.Act{nil, {}, make([]api.Act, 5)[:0]} {
		o := replays(t, []api.Program{begins(), prints(4)}, acts, 0, api.OK)
		tells(t, o, 0)
		tells(t, o, 1)
		remembers(t, o, 0, 0, 0)
		mayRun(t, o, 0, 0)
		mayRun(t, o, 1, 0)
		mayRun(t, o, 2)
	}
	for count := 1; count <= api.MaxSpaces; count++ {
		o := replays(t, slices.Repeat([]api.Program{prints(1)}, count), nil, 0, api.OK)
		if o.Space(count-1) == nil || o.Space(count) != nil {
			t.Errorf("of %d there are others", count)
		}
	}
}

// P20.1: it is the model behind all acts, each done once, in their order.
func TestReplayAll(t *testing.T) {
	acts := []api.Act{ran(0, 0), ran(1, 0), ran(0, 1), ran(0, 0), ran(0, 1), ran(0, 0), ticked(), wasDone(0, 0), ran(1, 0), ran(0, 1)}
	list := []api.Program{begins(), prints(4)}
	o := replays(t, list, acts, len(acts), api.OK)
	tells(t, o, 0, record(first, api.Spawn, 1, second), record(first, api.Print, second, 0), record(second, api.Print, 9, 0),
		api.Record{Thread: first, Op: api.Read}, record(first, api.Read, 0, 0), record(second, api.Exit, 9, 0))
	tells(t, o, 1, record(first, api.Print, 4, 0))
	mayRun(t, o, 0, 0)
	mayRun(t, o, 1, 0)
	for count := range acts {
		replays(t, list, acts[:count], count, api.OK)
	}
}

// P20.1: acts are done with all that they have: space, thread and choice.
func TestReplayChoices(t *testing.T) {
	p := program(does(spawn(1), spawn(1), spawn(1), on(api.Lock, 0), on(api.Unlock, 0)), does(on(api.Lock, 0), two(api.Read, 1, 0)))
	list := []api.Program{p, p}
	ahead := []api.Act{ran(1, 0), ran(1, 0), ran(1, 0), ran(1, 0), ran(1, 1), ran(1, 2), ran(1, 3)}
	for choice, next := range map[int]int{0: 1, 1: 2, 2: 3, 3: 1, -1: 3, 1 << 32: 2, 1<<32 + 1: 3, math.MaxInt: 2, math.MinInt: 2} {
		o := replays(t, list, append(slices.Clone(ahead), ranBy(1, 0, choice)), 8, api.OK)
		mayRun(t, o, 0, 0)
		mayRun(t, o, 1, 0, next)
	}
	ahead = append(ahead, ranBy(1, 0, 0), ran(1, 1), ran(1, 0))
	o := replays(t, list, append(ahead, wasDone(1, 0)), 11, api.OK)
	mayRun(t, o, 1, 1)
}

// P20.1: which of some requests is done is by the act's choice.
func TestReplayDone(t *testing.T) {
	p := program(does(spawn(1), two(api.Read, 2, 3)), does(two(api.Read, 2, 3)))
	ahead := []api.Act{ran(0, 0), ran(0, 0), ran(0, 1)}
	for choice, next := range map[int]int{0: 0, 1: 1, 2: 0, -1: 1} {
		o := replays(t, []api.Program{p}, append(slices.Clone(ahead), wasDone(0, choice)), 4, api.OK)
		mayRun(t, o, 0, next)
	}
}

// P20.1: moments go by for all spaces.
func TestReplayTicks(t *testing.T) {
	p := program(does(set(1, 2), reg(api.Sleep, 1)))
	acts := []api.Act{ran(0, 0), ran(1, 0), ran(0, 0), ticked(), ran(1, 0), {Kind: api.ActTick, Space: 7, Thread: 9, Choice: -1}}
	o := replays(t, []api.Program{p, p}, acts, len(acts), api.OK)
	mayRun(t, o, 0, 0)
	mayRun(t, o, 1)
}

// mistakes is acts that are errors of a model of two programs of begins, behind acts that have thread 0 of space 0 wait for its disk.
func mistakes() map[api.Act]api.Errno {
	list := map[api.Act]api.Errno{
		{}: api.ErrArg, {Kind: 4}: api.ErrArg, {Kind: -1}: api.ErrArg, {Kind: 1<<32 + 1}: api.ErrArg,
		ran(0, 0): api.ErrBusy, ranBy(0, 0, 5): api.ErrBusy, ran(0, 2): api.ErrArg, ran(1, 1): api.ErrArg, wasDone(1, 0): api.ErrNone,
	}
	for _, n := range append(ends(), 2, api.MaxSpaces) {
		list[ran(n, 0)], list[wasDone(n, 0)] = api.ErrArg, api.ErrArg
		list[ran(0, n)] = api.ErrArg
		list[wasDone(1, n)] = api.ErrNone
	}
	return list
}

// P20.1: up to the first act that has an error: the model, how many were done, and that error; nothing is done behind it.
func TestReplayErrors(t *testing.T) {
	list := []api.Program{begins(), begins()}
	ahead := []api.Act{ran(0, 0), ran(0, 0), ran(0, 0)}
	for act, e := range mistakes() {
		acts := append(slices.Clone(ahead), act)
		isBehind(t, list, acts, 3, e)
		for _, later := range []api.Act{ran(0, 1), ran(1, 0), ticked(), wasDone(0, 0), {}, ran(0, 0)} {
			isBehind(t, list, append(slices.Clone(acts), later, later), 3, e)
		}
	}
}

// isBehind asks that by acts one comes just to the first so many of them, and that error.
func isBehind(t *testing.T, list []api.Program, acts []api.Act, count int, e api.Errno) {
	t.Helper()
	o := replays(t, list, acts, count, e)
	isAs(t, o, replays(t, list, acts[:count], count, api.OK))
}

// P20.1: an error of the very first act, and of the last of many.
func TestReplayEdges(t *testing.T) {
	list := []api.Program{begins()}
	o := replays(t, list, []api.Act{ran(0, 1), ran(0, 0)}, 0, api.ErrArg)
	tells(t, o, 0)
	mayRun(t, o, 0, 0)
	moments := slices.Repeat([]api.Act{ticked()}, 3000)
	replays(t, list, moments, 3000, api.OK)
	replays(t, list, append(moments, wasDone(0, 0)), 3000, api.ErrNone)
}

// P20.1 and R4: neither programs nor acts are changed or kept, nor is the room beside them; each model is a new one.
func TestReplayKeepsNothing(t *testing.T) {
	code := does(set(1, 7), reg(api.Print, 1), reg(api.Print, 1))[:2]
	list := []api.Program{{Funcs: [][]api.Instr{code}, Words: 1}, prints(2)}[:1]
	acts := []api.Act{ran(0, 0), ticked(), ran(0, 0), ran(0, 0)}[:2]
	o := replays(t, list, acts, 2, api.OK)
	if !slices.Equal(code[:3], does(set(1, 7), reg(api.Print, 1), reg(api.Print, 1))) || list[:2][1].Words != 2 || list[0].Words != 1 ||
		!slices.Equal(acts[:4], []api.Act{ran(0, 0), ticked(), ran(0, 0), ran(0, 0)}) {
		t.Fatalf("there are %v and %v now", list[:2], acts[:4])
	}
	other := replays(t, list, acts, 2, api.OK)
	code[0], code[1] = reg(api.Exit, 0), reg(api.Exit, 0)
	acts[0], acts[1] = api.Act{}, api.Act{}
	list[0] = api.Program{}
	if e := o.Do(ran(0, 0)); e != api.OK {
		t.Fatalf("it goes on with %d", e)
	}
	tells(t, o, 0, record(first, api.Print, 7, 0))
	tells(t, other, 0)
	isAs(t, other, other)
}

// R5: nothing is kept from call to call.
func TestReplayAgain(t *testing.T) {
	list := []api.Program{begins(), prints(3)}
	acts := []api.Act{ran(1, 0), ran(1, 0), ran(0, 0)}
	o := replays(t, list, acts, 3, api.OK)
	match.Replay(list, []api.Act{ran(0, 0), ran(0, 0), {}})
	match.Replay(nil, acts)
	isAs(t, o, replays(t, list, acts, 3, api.OK))
}
