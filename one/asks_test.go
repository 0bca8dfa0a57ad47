package one_test

import (
	"math"
	"slices"
	"testing"

	"drawknife/api"
	"drawknife/core"
	"drawknife/one"
)

// The first handles of the first two slots.
const (
	first  = 1*65536 + 1
	second = 1*65536 + 2
)

// set, does1, does2 and on are instructions by what they have; spawn begins a function.
func set(a int, n uint64) api.Instr      { return api.Instr{Op: api.Set, A: a, N: n} }
func does1(op, a int) api.Instr          { return api.Instr{Op: op, A: a} }
func does2(op, a, b int) api.Instr       { return api.Instr{Op: op, A: a, B: b} }
func on(op int, n uint64) api.Instr      { return api.Instr{Op: op, N: n} }
func spawn(a, b int, n uint64) api.Instr { return api.Instr{Op: api.Spawn, A: a, B: b, N: n} }

// code is functions; does is one.
func code(funcs ...[]api.Instr) api.Program { return api.Program{Funcs: funcs} }
func does(list ...api.Instr) []api.Instr    { return list }

// run, runBy (a choice), doneBy and tick are acts; times is one so many times.
func run(space, thread int) api.Act { return api.Act{Kind: api.ActRun, Space: space, Thread: thread} }
func runBy(space, thread, c int) api.Act {
	return api.Act{Kind: api.ActRun, Space: space, Thread: thread, Choice: c}
}
func doneBy(space, choice int) api.Act {
	return api.Act{Kind: api.ActDone, Space: space, Choice: choice}
}
func tick() api.Act                      { return api.Act{Kind: api.ActTick} }
func times(n int, act api.Act) []api.Act { return slices.Repeat([]api.Act{act}, n) }

// record is that of what is done at once, or goes on.
func record(h uint64, o int, x, y uint64) api.Record {
	return api.Record{Thread: h, Op: o, X: x, Y: y, End: true}
}

// begin is a model of programs that may be.
func begin(t *testing.T, list ...api.Program) *one.One {
	t.Helper()
	o, e := one.New(list)
	if o == nil || e != api.OK {
		t.Fatalf("New(%v) is %v, %d", list, o, e)
	}
	return o
}

// acts has a model do acts that it may do.
func acts(t *testing.T, o *one.One, list ...api.Act) {
	t.Helper()
	for _, a := range list {
		answers(t, o, a, api.OK)
	}
}

// answers asks for what Do is.
func answers(t *testing.T, o *one.One, a api.Act, wanted api.Errno) {
	t.Helper()
	if e := o.Do(a); e != wanted {
		t.Fatalf("Do(%+v) is %d, not %d", a, e, wanted)
	}
}

// refuses asks for an error, by which nothing changes in the spaces.
func refuses(t *testing.T, o *one.One, wanted api.Errno, list ...api.Act) {
	t.Helper()
	for _, a := range list {
		ahead := whole(o)
		answers(t, o, a, wanted)
		if !slices.EqualFunc(ahead, whole(o), sameView) {
			t.Fatalf("%+v, which is refused, made %+v of %+v", a, whole(o), ahead)
		}
	}
}

// view is all that one sees of a space by the model's calls.
type view struct {
	ready   []int
	records []api.Record
	memory  []uint64
	threads []api.Thread
	there   []bool
}

// slots is the slots of a space, and numbers beside them.
func slots() []int {
	list := []int{math.MinInt, -1, api.MaxThreads, api.MaxThreads + 1, 1 << 32, math.MaxInt}
	for slot := range api.MaxThreads {
		list = append(list, slot)
	}
	return list
}

// viewOf is that of a space of a model.
func viewOf(o *one.One, space int) view {
	v := view{ready: o.Ready(space), records: o.Records(space), memory: o.Memory(space)}
	for _, slot := range slots() {
		x, ok := o.Look(space, slot)
		v.threads, v.there = append(v.threads, x), append(v.there, ok)
	}
	return v
}

// viewAlone is that of a space by chapter 10's calls.
func viewAlone(s *core.Space) view {
	v := view{ready: s.Ready(), records: s.Records(), memory: s.Memory()}
	for _, slot := range slots() {
		x, ok := s.Look(slot)
		v.threads, v.there = append(v.threads, x), append(v.there, ok)
	}
	return v
}

// nobody is the view of a space that there is not.
func nobody() view {
	return view{threads: make([]api.Thread, len(slots())), there: make([]bool, len(slots()))}
}

// whole is the views of all spaces that there may be.
func whole(o *one.One) []view {
	var list []view
	for space := range api.MaxSpaces {
		list = append(list, viewOf(o, space))
	}
	return list
}

// sameView: are two the same? Nil and empty lists are.
func sameView(a, b view) bool {
	return slices.Equal(a.ready, b.ready) && slices.Equal(a.records, b.records) && slices.Equal(a.memory, b.memory) &&
		slices.Equal(a.threads, b.threads) && slices.Equal(a.there, b.there)
}

// looks asks for a thread.
func looks(t *testing.T, o *one.One, space, slot int, wanted api.Thread) {
	t.Helper()
	if x, ok := o.Look(space, slot); x != wanted || !ok {
		t.Fatalf("Look(%d, %d) is %+v, %t; not %+v, true", space, slot, x, ok, wanted)
	}
}

// readyAre asks who may run.
func readyAre(t *testing.T, o *one.One, space int, wanted ...int) {
	t.Helper()
	if list := o.Ready(space); !slices.Equal(list, wanted) {
		t.Fatalf("Ready(%d) is %d, not %d", space, list, wanted)
	}
}

// tells asks for all records.
func tells(t *testing.T, o *one.One, space int, wanted ...api.Record) {
	t.Helper()
	if list := o.Records(space); !slices.Equal(list, wanted) {
		t.Fatalf("Records(%d) is\n%+v, not\n%+v", space, list, wanted)
	}
}

// remembers asks for the memory.
func remembers(t *testing.T, o *one.One, space int, wanted ...uint64) {
	t.Helper()
	if list := o.Memory(space); !slices.Equal(list, wanted) {
		t.Fatalf("Memory(%d) is %d, not %d", space, list, wanted)
	}
}

// noSpaces is numbers that no space has, where there are so many.
func noSpaces(count int) []int {
	return []int{math.MinInt, -1 << 32, -count, -1, count, count + 1, api.MaxSpaces, api.MaxSpaces + 1, 1 << 32, math.MaxInt}
}

// ends is numbers at their ends, and small ones.
func ends() []int { return []int{math.MinInt, -9, -1, 0, 1, 5, 1 << 32, math.MaxInt} }
