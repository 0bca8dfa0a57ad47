package frame

import (
	"math"
	"slices"
	"testing"

	"drawknife/api"
	"drawknife/num"
)

const lastWord = uint64(math.MaxUint64)

func w(f float64) uint64 { return math.Float64bits(f) }

// outsiders are numbers that are no register.
func outsiders() []int { return []int{math.MinInt, -1, api.Regs, api.Regs + 1, 256, math.MaxInt} }

// notPlainOps are numbers that are no plain instruction.
func notPlainOps() []int {
	ops := []int{math.MinInt, -1, 0, api.Print + 1, 256, math.MaxInt}
	for op := api.Spawn; op <= api.Print; op++ {
		ops = append(ops, op)
	}
	return ops
}

// has is which fields of a plain instruction are registers.
type has struct {
	op      int
	a, b, c bool
}

// fields are the chapter's plain instructions, each with a row of its own.
func fields() []has {
	return []has{
		{api.Set, true, false, false},
		{api.Move, true, true, false},
		{api.Add, true, true, true},
		{api.Sub, true, true, true},
		{api.Mul, true, true, true},
		{api.Less, true, true, true},
		{api.FAdd, true, true, true},
		{api.FSub, true, true, true},
		{api.FMul, true, true, true},
		{api.FDiv, true, true, true},
		{api.FMin, true, true, true},
		{api.FMax, true, true, true},
		{api.FLess, true, true, true},
		{api.ToInt, true, true, false},
		{api.ToFloat, true, true, false},
		{api.Jump, false, false, false},
		{api.Zero, true, false, false},
		{api.Load, true, true, false},
		{api.Store, true, true, false},
	}
}

// P3.1: Next is the instruction at its function and place; where there is none, nothing and false.
func TestNext(t *testing.T) {
	p := api.Program{Funcs: [][]api.Instr{
		{{Op: api.Set, A: 1, N: 5}, {Op: api.Yield}},
		nil,
		{{Op: 99, A: -4, B: 3, C: math.MinInt, N: lastWord}},
	}}
	for at := -2; at <= 4; at++ {
		for pc := -2; pc <= 4; pc++ {
			want, is := api.Instr{}, false
			if at >= 0 && at < 3 && pc >= 0 && pc < len(p.Funcs[at]) {
				want, is = p.Funcs[at][pc], true
			}
			if got, ok := Next(p, Frame{Func: at, PC: pc, Regs: api.Regs8{7, 7}}); got != want || ok != is {
				t.Errorf("function %d, place %d: %+v %v", at, pc, got, ok)
			}
		}
	}
	if got, ok := Next(p, Frame{Func: 2}); !ok || got.Op != 99 || got.N != lastWord {
		t.Errorf("an instruction that is none is told as it is: %+v %v", got, ok)
	}
}

// P3.1: no place at all, by numbers at their ends, in programs with and without functions.
func TestNextAtTheEnds(t *testing.T) {
	for _, p := range []api.Program{{}, {Funcs: [][]api.Instr{}}, {Funcs: [][]api.Instr{nil}}, {Funcs: [][]api.Instr{{}}}} {
		if got, ok := Next(p, Frame{}); ok || got != (api.Instr{}) {
			t.Errorf("%+v: %+v %v", p, got, ok)
		}
	}
	p := api.Program{Funcs: [][]api.Instr{{{Op: api.Yield}}}}
	for _, f := range []Frame{{Func: math.MinInt}, {Func: math.MaxInt}, {PC: math.MinInt}, {PC: math.MaxInt}, {Func: math.MaxInt, PC: math.MinInt}} {
		if got, ok := Next(p, f); ok || got != (api.Instr{}) {
			t.Errorf("%+v: %+v %v", f, got, ok)
		}
	}
}

// P3.1: a place behind a function's end is none, though its list has room and something lies there.
func TestNextIgnoresSpareRoom(t *testing.T) {
	code := []api.Instr{{Op: api.Set}, {Op: api.Yield}}
	p := api.Program{Funcs: [][]api.Instr{code[:1], code}[:1]}
	for _, f := range []Frame{{PC: 1}, {Func: 1}} {
		if got, ok := Next(p, f); ok || got != (api.Instr{}) {
			t.Errorf("%+v: %+v %v", f, got, ok)
		}
	}
}

// sum is one line of what Arith is to answer.
type sum struct {
	op   int
	a, b uint64
	want uint64
}

func sums() []sum {
	none := uint64(0x7ff8000000000000)
	return []sum{
		{api.Move, 5, 9, 5}, {api.Move, lastWord, 0, lastWord}, {api.Move, 0, 1, 0},
		{api.Add, 2, 3, 5}, {api.Add, lastWord, 1, 0}, {api.Add, lastWord, lastWord, lastWord - 1}, {api.Add, 1 << 63, 1 << 63, 0},
		{api.Sub, 5, 3, 2}, {api.Sub, 3, 5, lastWord - 1}, {api.Sub, 0, lastWord, 1}, {api.Sub, 0, 1 << 63, 1 << 63},
		{api.Mul, 6, 7, 42}, {api.Mul, 1 << 32, 1 << 32, 0}, {api.Mul, lastWord, lastWord, 1}, {api.Mul, lastWord, 2, lastWord - 1},
		{api.Less, 1, 2, 1}, {api.Less, 2, 1, 0}, {api.Less, 2, 2, 0}, {api.Less, 0, 0, 0},
		{api.Less, 1, lastWord, 1}, {api.Less, lastWord, 1, 0}, {api.Less, 1<<63 - 1, 1 << 63, 1}, {api.Less, 1 << 63, 1<<63 - 1, 0},
		{api.FAdd, w(1.5), w(2), w(3.5)}, {api.FAdd, w(math.Inf(1)), w(math.Inf(-1)), none},
		{api.FSub, w(1.5), w(2), w(-0.5)}, {api.FSub, w(2), w(2), 0},
		{api.FMul, w(1.5), w(-2), w(-3)}, {api.FMul, w(0), w(math.Inf(1)), none},
		{api.FDiv, w(3), w(2), w(1.5)}, {api.FDiv, w(2), w(3), w(2.0 / 3)}, {api.FDiv, w(-1), 0, w(math.Inf(-1))}, {api.FDiv, 0, 0, none},
		{api.FMin, w(3), w(-2), w(-2)}, {api.FMin, 0, 1 << 63, 1 << 63},
		{api.FMax, w(3), w(-2), w(3)}, {api.FMax, 1 << 63, 0, 0},
		{api.FLess, w(-2), w(3), 1}, {api.FLess, w(3), w(-2), 0}, {api.FLess, w(3), w(3), 0}, {api.FLess, 1 << 63, 0, 0}, {api.FLess, none, w(1), 0}, {api.FLess, w(1), none, 0},
		{api.ToInt, w(3.75), 9, 3}, {api.ToInt, w(-3.75), 0, lastWord - 2}, {api.ToInt, w(1e300), 0, 1<<63 - 1}, {api.ToInt, none, 0, 0},
		{api.ToFloat, 3, 9, w(3)}, {api.ToFloat, lastWord, 0, w(-1)}, {api.ToFloat, 0, 0, 0},
	}
}

// P3.1: what each instruction makes of two words, at ordinary ones and where they go round.
func TestArith(t *testing.T) {
	for _, c := range sums() {
		if got, ok := Arith(c.op, c.a, c.b); !ok || got != c.want {
			t.Errorf("Arith(%d, %#x, %#x): %#x %v, not %#x", c.op, c.a, c.b, got, ok, c.want)
		}
	}
}

// edgeWords are words at the edges of numbers with and without a point.
func edgeWords() []uint64 {
	return []uint64{0, 1, 2, 1<<63 - 1, 1 << 63, 1<<63 + 1, lastWord, w(1), w(-1), w(2.5), w(1e300), w(math.Inf(1)), w(math.Inf(-1)), 0x7ff8000000000000, 0x7ff0000000000001, 0xfff8000000000001}
}

// P3.1: numbers with a point are chapter 1's, at all edges.
func TestArithOfPointsIsNums(t *testing.T) {
	one := func(holds bool) uint64 {
		if holds {
			return 1
		}
		return 0
	}
	for _, a := range edgeWords() {
		for _, b := range edgeWords() {
			for _, c := range []sum{
				{api.FAdd, a, b, num.Add(a, b)},
				{api.FSub, a, b, num.Sub(a, b)},
				{api.FMul, a, b, num.Mul(a, b)},
				{api.FDiv, a, b, num.Div(a, b)},
				{api.FMin, a, b, num.Min(a, b)},
				{api.FMax, a, b, num.Max(a, b)},
				{api.FLess, a, b, one(num.Less(a, b))},
				{api.ToInt, a, b, num.ToInt(a)},
				{api.ToFloat, a, b, num.ToFloat(a)},
				{api.Move, a, b, a},
			} {
				if got, ok := Arith(c.op, c.a, c.b); !ok || got != c.want {
					t.Errorf("Arith(%d, %#x, %#x): %#x %v, not %#x", c.op, c.a, c.b, got, ok, c.want)
				}
			}
		}
	}
}

// P3.1: of all others nothing, and false; Move to ToFloat are all that there are.
func TestArithOfOthers(t *testing.T) {
	ops := append(notPlainOps(), api.Set, api.Jump, api.Zero, api.Load, api.Store)
	for _, op := range ops {
		if got, ok := Arith(op, 6, 7); ok || got != 0 {
			t.Errorf("Arith(%d): %d %v", op, got, ok)
		}
	}
	for op := api.Move; op <= api.ToFloat; op++ {
		if _, ok := Arith(op, 6, 7); !ok {
			t.Errorf("Arith(%d): none", op)
		}
	}
}

// start is a frame whose words are all others.
func start() Frame {
	return Frame{Func: 3, PC: 10, Regs: api.Regs8{0, 1, 2, w(2.5), w(-1.5), 1 << 63, lastWord, 40}}
}

func startMemory() []uint64 { return []uint64{100, 101, 102} }

// tryPlain asks for a frame and a memory behind an instruction.
func tryPlain(t *testing.T, f Frame, i api.Instr, memory []uint64, want Frame, words []uint64) {
	t.Helper()
	if got, m, e := Plain(f, i, memory); got != want || !slices.Equal(m, words) || e != api.OK {
		t.Errorf("%+v: %+v %v %d, not %+v %v", i, got, m, e, want, words)
	}
}

// tryError asks for an error, and for nothing beside it.
func tryError(t *testing.T, f Frame, i api.Instr, memory []uint64, want api.Errno) {
	t.Helper()
	if got, m, e := Plain(f, i, memory); got != (Frame{}) || len(m) != 0 || e != want {
		t.Errorf("%+v: %+v %v %d, not %d", i, got, m, e, want)
	}
}

// with is a frame with another word in a register, one place further on.
func with(f Frame, r int, word uint64) Frame {
	f.PC++
	f.Regs[r] = word
	return f
}

// P3.2: Set has N, of any size; B and C count for nothing.
func TestSet(t *testing.T) {
	for _, n := range edgeWords() {
		for r := range api.Regs {
			tryPlain(t, start(), api.Instr{Op: api.Set, A: r, B: -1, C: 8, N: n}, startMemory(), with(start(), r, n), startMemory())
		}
	}
}

// P3.2: of each instruction that reckons: A has what B and C come to; of Move, ToInt and ToFloat what B alone comes to; N counts for nothing.
func TestReckoning(t *testing.T) {
	f := start()
	for _, h := range fields() {
		if h.op == api.Set || h.op >= api.Jump {
			continue
		}
		for a := range api.Regs {
			for b := range api.Regs {
				for c := range api.Regs {
					second := uint64(0)
					if h.c {
						second = f.Regs[c]
					}
					want, _ := Arith(h.op, f.Regs[b], second)
					tryPlain(t, f, api.Instr{Op: h.op, A: a, B: b, C: c, N: 55}, startMemory(), with(f, a, want), startMemory())
				}
			}
		}
	}
}

// P3.2: the same by numbers written out, so that no fault of Arith hides one of Plain.
func TestReckoningByHand(t *testing.T) {
	for _, c := range []struct {
		i    api.Instr
		want uint64
	}{
		{api.Instr{Op: api.Move, A: 0, B: 7, C: 99}, 40},
		{api.Instr{Op: api.Add, A: 0, B: 7, C: 2}, 42},
		{api.Instr{Op: api.Sub, A: 2, B: 2, C: 7}, lastWord - 37},
		{api.Instr{Op: api.Mul, A: 7, B: 5, C: 2}, 0},
		{api.Instr{Op: api.Less, A: 0, B: 7, C: 6}, 1},
		{api.Instr{Op: api.Less, A: 0, B: 6, C: 7}, 0},
		{api.Instr{Op: api.FSub, A: 1, B: 3, C: 4}, w(4)},
		{api.Instr{Op: api.FLess, A: 1, B: 4, C: 3}, 1},
		{api.Instr{Op: api.ToInt, A: 1, B: 4, C: -9}, lastWord},
		{api.Instr{Op: api.ToFloat, A: 4, B: 6, C: 99}, w(-1)},
	} {
		tryPlain(t, start(), c.i, startMemory(), with(start(), c.i.A, c.want), startMemory())
	}
}

// P3.2: a jump goes to N, as a number that goes round; no register is asked.
func TestJump(t *testing.T) {
	for n, pc := range map[uint64]int{0: 0, 9: 9, 256: 256, 1 << 40: 1 << 40, 1<<63 - 1: math.MaxInt, 1 << 63: math.MinInt, lastWord: -1, lastWord - 1: -2} {
		want := start()
		want.PC = pc
		tryPlain(t, start(), api.Instr{Op: api.Jump, N: n}, startMemory(), want, startMemory())
		for _, r := range outsiders() {
			tryPlain(t, start(), api.Instr{Op: api.Jump, A: r, B: r, C: r, N: n}, startMemory(), want, startMemory())
		}
		tryPlain(t, start(), api.Instr{Op: api.Zero, A: 0, B: -1, C: 8, N: n}, startMemory(), want, startMemory())
	}
}

// P3.2: Zero goes one further where A has any other word than 0 (that of minus nought, too).
func TestZeroOfOtherWords(t *testing.T) {
	for r := 1; r < api.Regs; r++ {
		want := start()
		want.PC = 11
		tryPlain(t, start(), api.Instr{Op: api.Zero, A: r, N: 3}, startMemory(), want, startMemory())
	}
	f := Frame{Regs: api.Regs8{7: 1}}
	tryPlain(t, f, api.Instr{Op: api.Zero, A: 7, N: 3}, nil, Frame{PC: 1, Regs: f.Regs}, nil)
	tryPlain(t, f, api.Instr{Op: api.Zero, A: 6, N: 3}, nil, Frame{PC: 3, Regs: f.Regs}, nil)
}

// P3.2: one more goes round at the end of numbers; places that no program has are places all the same.
func TestOneMore(t *testing.T) {
	set := api.Instr{Op: api.Set, A: 0, N: 1}
	for pc, behind := range map[int]int{-1: 0, math.MinInt: math.MinInt + 1, math.MaxInt: math.MinInt, 256: 257} {
		tryPlain(t, Frame{Func: -7, PC: pc}, set, nil, Frame{Func: -7, PC: behind, Regs: api.Regs8{1}}, nil)
	}
}

// P3.2: Load has the word at what B has.
func TestLoad(t *testing.T) {
	for r, want := range map[int]uint64{0: 100, 1: 101, 2: 102} {
		for a := range api.Regs {
			tryPlain(t, start(), api.Instr{Op: api.Load, A: a, B: r, C: -1, N: 9}, startMemory(), with(start(), a, want), startMemory())
		}
	}
}

// P3.2: Store lays B's word at what A has; no register is another behind it.
func TestStore(t *testing.T) {
	want := start()
	want.PC = 11
	for a := range 3 {
		for b := range api.Regs {
			words := startMemory()
			words[a] = start().Regs[b]
			tryPlain(t, start(), api.Instr{Op: api.Store, A: a, B: b, C: 8, N: 9}, startMemory(), want, words)
		}
	}
}

// P3.2: an address at the number of words or beyond it is a fault, of Load by B, of Store by A; and so is every one where there are no words.
func TestFault(t *testing.T) {
	for _, address := range []uint64{3, 4, 64, 1 << 32, 1<<63 - 1, 1 << 63, lastWord} {
		f := Frame{PC: 4, Regs: api.Regs8{1, address}}
		tryError(t, f, api.Instr{Op: api.Load, A: 0, B: 1}, startMemory(), api.ErrFault)
		tryError(t, f, api.Instr{Op: api.Store, A: 1, B: 0}, startMemory(), api.ErrFault)
		// The other register's word is no address.
		tryPlain(t, f, api.Instr{Op: api.Load, A: 1, B: 0}, startMemory(), with(f, 1, 101), startMemory())
		tryPlain(t, f, api.Instr{Op: api.Store, A: 0, B: 1}, startMemory(), with(f, 0, 1), []uint64{100, address, 102})
	}
	for _, memory := range [][]uint64{nil, {}, startMemory()[:0]} {
		tryError(t, Frame{}, api.Instr{Op: api.Load}, memory, api.ErrFault)
		tryError(t, Frame{}, api.Instr{Op: api.Store}, memory, api.ErrFault)
	}
}

// P3.2: what is not plain is ErrCode, whatever else it has.
func TestNotPlain(t *testing.T) {
	for _, op := range notPlainOps() {
		tryError(t, start(), api.Instr{Op: op}, startMemory(), api.ErrCode)
		tryError(t, start(), api.Instr{Op: op, A: 7, B: 7, C: 7, N: 7}, nil, api.ErrCode)
	}
}

// P3.2: each field that an instruction has must be a register, from 0 to 7; a field that it has not may be any number.
func TestRegisters(t *testing.T) {
	memory := make([]uint64, 8)
	zeros := Frame{PC: 1}
	try := func(i api.Instr, asked bool) {
		t.Helper()
		want := api.OK
		if asked {
			want = api.ErrCode
		}
		if _, _, e := Plain(zeros, i, memory); e != want {
			t.Errorf("%+v: %d, not %d", i, e, want)
		}
	}
	for _, h := range fields() {
		try(api.Instr{Op: h.op}, false)
		try(api.Instr{Op: h.op, A: 7, B: 7, C: 7}, false)
		for _, r := range outsiders() {
			try(api.Instr{Op: h.op, A: r}, h.a)
			try(api.Instr{Op: h.op, B: r}, h.b)
			try(api.Instr{Op: h.op, C: r}, h.c)
			try(api.Instr{Op: h.op, A: r, B: r, C: r}, h.a)
		}
	}
}

// P3.2: ErrCode has nothing beside it, and is told ahead of ErrFault.
func TestCodeIsToldFirst(t *testing.T) {
	for _, r := range outsiders() {
		tryError(t, start(), api.Instr{Op: api.Load, A: r, B: 6}, startMemory(), api.ErrCode)
		tryError(t, start(), api.Instr{Op: api.Store, A: 6, B: r}, startMemory(), api.ErrCode)
		tryError(t, start(), api.Instr{Op: api.Load, A: r}, nil, api.ErrCode)
		tryError(t, start(), api.Instr{Op: api.Store, B: r}, nil, api.ErrCode)
		tryError(t, start(), api.Instr{Op: api.Add, C: r}, startMemory(), api.ErrCode)
	}
}

// R4: what is handed in is not changed, its spare room included; what is answered is new memory, also where nothing is written.
func TestMemoryIsNew(t *testing.T) {
	given := []uint64{100, 101, 102, 7, 7}
	for _, h := range fields() {
		memory := given[:3]
		_, words, e := Plain(Frame{Regs: api.Regs8{0, 55}}, api.Instr{Op: h.op, A: 0, B: 1, C: 2}, memory)
		if h.op == api.Load {
			_, words, e = Plain(Frame{}, api.Instr{Op: h.op}, memory)
		}
		if e != api.OK || len(words) != 3 {
			t.Fatalf("%d: %v %d", h.op, words, e)
		}
		all := words[:cap(words)]
		for k := range all {
			all[k] = 9
		}
		if !slices.Equal(given, []uint64{100, 101, 102, 7, 7}) {
			t.Fatalf("%d: what was handed in is now %v", h.op, given)
		}
	}
}
