package inst

import (
	"math"
	"reflect"
	"testing"

	"drawknife/api"
)

const lastWord = uint64(math.MaxUint64)

// counted is a program with another count of each thing, so that none is taken for another.
func counted() api.Program {
	return api.Program{Funcs: make([][]api.Instr, 6), Words: 9, Mutexes: 4, Conds: 3, Sems: []int{0, 1 << 20}, Pipes: []int{1}, Blocks: 5, Prio: 2}
}

// most is, for one instruction, the greatest number that each field may be in counted; 0: it has no such field, or no other number.
type most struct {
	op      int
	a, b, c int
	n       uint64
}

// all are the chapter's instructions, each with a row of its own.
func all() []most {
	return []most{
		{api.Set, 7, 0, 0, lastWord},
		{api.Move, 7, 7, 0, 0},
		{api.Add, 7, 7, 7, 0},
		{api.Sub, 7, 7, 7, 0},
		{api.Mul, 7, 7, 7, 0},
		{api.Less, 7, 7, 7, 0},
		{api.FAdd, 7, 7, 7, 0},
		{api.FSub, 7, 7, 7, 0},
		{api.FMul, 7, 7, 7, 0},
		{api.FDiv, 7, 7, 7, 0},
		{api.FMin, 7, 7, 7, 0},
		{api.FMax, 7, 7, 7, 0},
		{api.FLess, 7, 7, 7, 0},
		{api.ToInt, 7, 7, 0, 0},
		{api.ToFloat, 7, 7, 0, 0},
		{api.Jump, 0, 0, 0, 256},
		{api.Zero, 7, 0, 0, 256},
		{api.Load, 7, 7, 0, 0},
		{api.Store, 7, 7, 0, 0},
		{api.Spawn, 7, 7, 0, 5},
		{api.Join, 7, 7, 0, 0},
		{api.Detach, 7, 0, 0, 0},
		{api.Exit, 7, 0, 0, 0},
		{api.Yield, 0, 0, 0, 0},
		{api.Lock, 0, 0, 0, 3},
		{api.Unlock, 0, 0, 0, 3},
		{api.Wait, 0, 0, 3, 2},
		{api.Signal, 0, 0, 0, 2},
		{api.Broadcast, 0, 0, 0, 2},
		{api.Down, 0, 0, 0, 1},
		{api.Up, 0, 0, 0, 1},
		{api.Self, 7, 0, 0, 0},
		{api.Read, 7, 7, 0, 0},
		{api.Write, 7, 7, 0, 0},
		{api.Put, 7, 0, 0, 0},
		{api.Get, 7, 0, 0, 0},
		{api.Sleep, 7, 0, 0, 0},
		{api.Print, 7, 0, 0, 0},
	}
}

// ints are numbers at and about the edges of every field with a sign.
func ints() []int {
	return []int{math.MinInt, math.MinInt + 7, math.MinInt32, -256, -8, -7, -1, 0, 1, 2, 3, 4, 5, 6, 7, 8, 9, 255, 256, 257, math.MaxInt32, 1 << 32, 1<<32 + 1, math.MaxInt - 1, math.MaxInt}
}

// words are those of ints as words, and more of the greatest ones.
func words() []uint64 {
	list := []uint64{1 << 63, 1<<63 + 1, lastWord - 1, lastWord}
	for _, n := range ints() {
		list = append(list, uint64(n))
	}
	return list
}

func trySound(t *testing.T, p api.Program, i api.Instr, want bool) {
	t.Helper()
	if got := Sound(p, i); got != want {
		t.Errorf("Sound(%+v): %v", i, got)
	}
}

// P2.1: there is a row for each instruction, in api's order.
func TestRowsAreWhole(t *testing.T) {
	for k, m := range all() {
		if m.op != k+1 {
			t.Fatalf("row %d is of %d", k, m.op)
		}
	}
	if len(all()) != api.Print {
		t.Fatal(len(all()))
	}
}

// P2.1: each field of each instruction at all its edges, the others being as small, and as great, as they may be.
func TestSoundFieldByField(t *testing.T) {
	p := counted()
	for _, m := range all() {
		small, great := api.Instr{Op: m.op}, api.Instr{Op: m.op, A: m.a, B: m.b, C: m.c, N: m.n}
		for _, base := range []api.Instr{small, great} {
			trySound(t, p, base, true)
			for _, v := range ints() {
				i := base
				i.A = v
				trySound(t, p, i, v >= 0 && v <= m.a)
				i = base
				i.B = v
				trySound(t, p, i, v >= 0 && v <= m.b)
				i = base
				i.C = v
				trySound(t, p, i, v >= 0 && v <= m.c)
			}
			for _, v := range words() {
				i := base
				i.N = v
				trySound(t, p, i, v <= m.n)
			}
		}
	}
}

// P2.1: every combination of fields at and beyond their ends, so that no field makes up for another.
func TestSoundTogether(t *testing.T) {
	p := counted()
	few := []int{math.MinInt, -1, 0, 1, 3, 4, 7, 8}
	for _, m := range all() {
		for _, a := range few {
			for _, b := range few {
				for _, c := range few {
					for _, n := range []uint64{0, m.n, m.n + 1, lastWord} {
						want := a >= 0 && a <= m.a && b >= 0 && b <= m.b && c >= 0 && c <= m.c && n <= m.n
						trySound(t, p, api.Instr{Op: m.op, A: a, B: b, C: c, N: n}, want)
					}
				}
			}
		}
	}
}

// P2.1: what is no instruction is not sound, whatever it has.
func TestSoundOfNoInstruction(t *testing.T) {
	p := counted()
	for _, op := range []int{math.MinInt, -38, -1, 0, 39, 40, 64, 256 + api.Yield, 1<<32 + api.Yield, math.MaxInt} {
		for _, n := range words() {
			trySound(t, p, api.Instr{Op: op, N: n}, false)
			trySound(t, p, api.Instr{Op: op, A: int(n), B: int(n), C: int(n)}, false)
		}
	}
}

// objectInstrs are the instructions that ask for an object of a program: the first one, each.
func objectInstrs() []api.Instr {
	return []api.Instr{{Op: api.Spawn}, {Op: api.Lock}, {Op: api.Unlock}, {Op: api.Wait}, {Op: api.Signal}, {Op: api.Broadcast}, {Op: api.Down}, {Op: api.Up}, {Op: api.Put}, {Op: api.Get}}
}

// P2.1: of a program that has nothing no object may be named; all else may be.
func TestSoundOfEmptyProgram(t *testing.T) {
	asks := map[int]int{}
	for _, i := range objectInstrs() {
		asks[i.Op]++
	}
	for _, m := range all() {
		trySound(t, api.Program{}, api.Instr{Op: m.op}, asks[m.op] == 0)
	}
}

// P2.1: less than no mutexes and conditions are none, and not very many.
func TestSoundOfCountsBelowNought(t *testing.T) {
	for _, n := range []int{math.MinInt, math.MinInt + 1, -2, -1} {
		p := counted()
		p.Mutexes, p.Conds = n, n
		for _, v := range words() {
			for _, op := range []int{api.Lock, api.Unlock, api.Signal, api.Broadcast, api.Wait} {
				trySound(t, p, api.Instr{Op: op, N: v}, false)
				trySound(t, p, api.Instr{Op: op, N: v, C: int(v)}, false)
			}
		}
		p.Mutexes = 1
		trySound(t, p, api.Instr{Op: api.Wait}, false)
		p.Mutexes, p.Conds = n, 1
		trySound(t, p, api.Instr{Op: api.Wait}, false)
		trySound(t, p, api.Instr{Op: api.Wait, C: n}, false)
	}
}

// P2.1: Sound goes by how many a program has, also where the program itself may not be.
func TestSoundBeyondLimits(t *testing.T) {
	p := api.Program{Funcs: make([][]api.Instr, 300), Words: -1, Mutexes: math.MaxInt, Conds: 70, Sems: make([]int, 9), Pipes: make([]int, 20), Blocks: -1, Prio: 99}
	for _, c := range []struct {
		i  api.Instr
		ok bool
	}{
		{api.Instr{Op: api.Spawn, N: 299}, true}, {api.Instr{Op: api.Spawn, N: 300}, false},
		{api.Instr{Op: api.Lock, N: math.MaxInt - 1}, true}, {api.Instr{Op: api.Lock, N: math.MaxInt}, false}, {api.Instr{Op: api.Lock, N: lastWord}, false},
		{api.Instr{Op: api.Wait, C: math.MaxInt - 1, N: 69}, true}, {api.Instr{Op: api.Wait, C: math.MaxInt}, false}, {api.Instr{Op: api.Wait, C: -1}, false},
		{api.Instr{Op: api.Signal, N: 69}, true}, {api.Instr{Op: api.Broadcast, N: 70}, false},
		{api.Instr{Op: api.Down, N: 8}, true}, {api.Instr{Op: api.Up, N: 9}, false},
		{api.Instr{Op: api.Put, N: 19}, true}, {api.Instr{Op: api.Get, N: 20}, false},
		{api.Instr{Op: api.Jump, N: 257}, false}, {api.Instr{Op: api.Move, A: 8}, false},
	} {
		trySound(t, p, c.i, c.ok)
	}
}

// P2.1: Class and Seen, of all instructions and of numbers that are none's.
func TestClassAndSeen(t *testing.T) {
	classes := map[int]int{}
	for op := 1; op <= 19; op++ {
		classes[op] = 1
	}
	for op := 20; op <= 32; op++ {
		classes[op] = 2
	}
	for op := 33; op <= 38; op++ {
		classes[op] = 3
	}
	ops := append(ints(), 1<<32+20, -20, -33)
	for op := -50; op < 100; op++ {
		ops = append(ops, op)
	}
	for _, op := range ops {
		if got := Class(op); got != classes[op] {
			t.Errorf("Class(%d): %d", op, got)
		}
		if got := Seen(op); got != (op >= 18 && op <= 38) {
			t.Errorf("Seen(%d): %v", op, got)
		}
	}
}

func tryCheck(t *testing.T, name string, p api.Program, want api.Errno) {
	t.Helper()
	if got := Check(p); got != want {
		t.Errorf("%s: Check answers %d, not %d", name, got, want)
	}
}

// full is a program with as much of everything as there may be.
func full() api.Program {
	p := api.Program{Words: 64, Mutexes: 4, Conds: 4, Sems: []int{0, 1 << 20, 1, 1<<20 - 1}, Pipes: []int{1, 8, 2, 7}, Blocks: 64, Prio: 7}
	for range 8 {
		var code []api.Instr
		for k := range 256 {
			code = append(code, api.Instr{Op: k%38 + 1})
		}
		p.Funcs = append(p.Funcs, code)
	}
	return p
}

// P2.2: the least and the greatest programs that may be, and some between.
func TestCheckOfGoodPrograms(t *testing.T) {
	tryCheck(t, "least", api.Program{Funcs: [][]api.Instr{nil}}, api.OK)
	tryCheck(t, "least, with empty lists", api.Program{Funcs: [][]api.Instr{{}}, Sems: []int{}, Pipes: []int{}}, api.OK)
	tryCheck(t, "greatest", full(), api.OK)
	p := counted()
	for _, m := range all() {
		p.Funcs[m.op%6] = append(p.Funcs[m.op%6], api.Instr{Op: m.op, A: m.a, B: m.b, C: m.c, N: m.n})
	}
	tryCheck(t, "all instructions", p, api.OK)
}

// P2.2: each number of a program at the ends of what it may be, and beyond them.
func TestCheckOfNumbers(t *testing.T) {
	for _, c := range []struct {
		name        string
		least, most int
		set         func(p *api.Program, n int)
	}{
		{"Words", 0, 64, func(p *api.Program, n int) { p.Words = n }},
		{"Mutexes", 0, 4, func(p *api.Program, n int) { p.Mutexes = n }},
		{"Conds", 0, 4, func(p *api.Program, n int) { p.Conds = n }},
		{"Blocks", 0, 64, func(p *api.Program, n int) { p.Blocks = n }},
		{"Prio", 0, 7, func(p *api.Program, n int) { p.Prio = n }},
		{"Sems, first", 0, 1 << 20, func(p *api.Program, n int) { p.Sems = []int{n, 0, 0, 0} }},
		{"Sems, last", 0, 1 << 20, func(p *api.Program, n int) { p.Sems = []int{0, 0, 0, n} }},
		{"Pipes, first", 1, 8, func(p *api.Program, n int) { p.Pipes = []int{n, 1, 1, 1} }},
		{"Pipes, last", 1, 8, func(p *api.Program, n int) { p.Pipes = []int{1, 1, 1, n} }},
	} {
		for _, n := range append(ints(), c.least-1, c.least, c.least+1, c.most-1, c.most, c.most+1) {
			p := counted()
			c.set(&p, n)
			want := api.ErrCap
			if n >= c.least && n <= c.most {
				want = api.OK
			}
			tryCheck(t, c.name, p, want)
		}
	}
}

// P2.2: how many functions, instructions, semaphores and pipes there may be.
func TestCheckOfLists(t *testing.T) {
	ones := func(n int) []int {
		var list []int
		for range n {
			list = append(list, 1)
		}
		return list
	}
	yields := func(n int) []api.Instr {
		var list []api.Instr
		for range n {
			list = append(list, api.Instr{Op: api.Yield})
		}
		return list
	}
	for _, c := range []struct {
		name        string
		least, most int
		set         func(p *api.Program, n int)
	}{
		{"Funcs", 1, 8, func(p *api.Program, n int) { p.Funcs = make([][]api.Instr, n) }},
		{"Sems", 0, 4, func(p *api.Program, n int) { p.Sems = ones(n) }},
		{"Pipes", 0, 4, func(p *api.Program, n int) { p.Pipes = ones(n) }},
		{"first function", 0, 256, func(p *api.Program, n int) { p.Funcs[0] = yields(n) }},
		{"last function", 0, 256, func(p *api.Program, n int) { p.Funcs[5] = yields(n) }},
	} {
		for _, n := range []int{0, 1, 2, 3, 4, 5, 7, 8, 9, 255, 256, 257, 1000} {
			p := counted()
			c.set(&p, n)
			want := api.ErrCap
			if n >= c.least && n <= c.most {
				want = api.OK
			}
			tryCheck(t, c.name, p, want)
		}
	}
}

// P2.2: an instruction that is not sound, wherever it stands.
func TestCheckOfCode(t *testing.T) {
	for _, bad := range []api.Instr{{}, {Op: 39}, {Op: -1}, {Op: api.Yield, N: 1}, {Op: api.Move, A: 8}, {Op: api.Jump, N: 257}, {Op: api.Spawn, N: 8}, {Op: api.Lock, N: 4}, {Op: api.Wait, C: 4}, {Op: api.Wait, C: -1}, {Op: api.Up, N: 4}, {Op: api.Get, N: 4}} {
		for _, at := range []struct{ f, pc int }{{0, 0}, {0, 255}, {3, 100}, {7, 0}, {7, 255}} {
			p := full()
			p.Funcs[at.f][at.pc] = bad
			tryCheck(t, "one bad instruction", p, api.ErrCode)
		}
	}
	for _, i := range objectInstrs() {
		p := api.Program{Funcs: [][]api.Instr{{i}}}
		want := api.ErrCode
		if i.Op == api.Spawn {
			want = api.OK // there is a function 0: its own
		}
		tryCheck(t, "no objects", p, want)
	}
}

// P2.2, R2: what is beyond a limit is told ahead of what is not sound, wherever the two stand.
func TestCapIsToldFirst(t *testing.T) {
	for _, spoil := range []func(p *api.Program){
		func(p *api.Program) { p.Funcs = append(p.Funcs, p.Funcs...) },
		func(p *api.Program) { p.Funcs[7] = make([]api.Instr, 257) },
		func(p *api.Program) { p.Words = -1 },
		func(p *api.Program) { p.Mutexes = 5 },
		func(p *api.Program) { p.Mutexes = -1 },
		func(p *api.Program) { p.Conds = 5 },
		func(p *api.Program) { p.Sems = make([]int, 5) },
		func(p *api.Program) { p.Sems[3] = -1 },
		func(p *api.Program) { p.Pipes = []int{1, 1, 1, 1, 1} },
		func(p *api.Program) { p.Pipes[3] = 9 },
		func(p *api.Program) { p.Blocks = 65 },
		func(p *api.Program) { p.Prio = 8 },
	} {
		p := full()
		p.Funcs[0][0] = api.Instr{}
		tryCheck(t, "bad code", p, api.ErrCode)
		spoil(&p)
		tryCheck(t, "bad code beyond a limit", p, api.ErrCap)
	}
	tryCheck(t, "nothing", api.Program{}, api.ErrCap)
}

// R4: what is handed in stays as it is.
func TestNothingIsChanged(t *testing.T) {
	p, same := full(), full()
	Check(p)
	for _, m := range all() {
		Sound(p, api.Instr{Op: m.op, A: m.a, B: m.b, C: m.c, N: m.n})
	}
	if !reflect.DeepEqual(p, same) {
		t.Error("the program was changed")
	}
}
