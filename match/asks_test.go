package match_test

import (
	"math"
	"slices"
	"testing"

	"drawknife/api"
	"drawknife/match"
	"drawknife/one"
	"drawknife/sys"
)

// The first handles of the first two slots.
const (
	first  = 1*65536 + 1
	second = 1*65536 + 2
)

// set, reg, two, on, spawn, pipe and yield are instructions by what they have.
func set(a int, n uint64) api.Instr      { return api.Instr{Op: api.Set, A: a, N: n} }
func reg(op, a int) api.Instr            { return api.Instr{Op: op, A: a} }
func two(op, a, b int) api.Instr         { return api.Instr{Op: op, A: a, B: b} }
func on(op int, n uint64) api.Instr      { return api.Instr{Op: op, N: n} }
func spawn(n uint64) api.Instr           { return api.Instr{Op: api.Spawn, A: 1, N: n} }
func pipe(op, a int, n uint64) api.Instr { return api.Instr{Op: op, A: a, N: n} }
func yield() api.Instr                   { return api.Instr{Op: api.Yield} }

// does is a function; program is functions, with some of each object.
func does(list ...api.Instr) []api.Instr { return list }
func program(funcs ...[]api.Instr) api.Program {
	return api.Program{Funcs: funcs, Words: 2, Mutexes: 2, Conds: 2, Sems: []int{0, 1}, Pipes: []int{1, 1}, Blocks: 2}
}

// prints is a program that tells a word; it is then at its end.
func prints(word uint64) api.Program { return program(does(set(1, word), reg(api.Print, 1))) }

// begins is a program whose first thread has another begin, tells of it, and reads a block.
func begins() api.Program {
	return program(does(spawn(1), reg(api.Print, 1), two(api.Read, 2, 3)), does(set(2, 9), reg(api.Print, 2), reg(api.Exit, 2)))
}

// wrong is programs that may not be: for what they have, and for their code.
func wrong() []api.Program {
	capped := prints(1)
	capped.Words = api.MaxWords + 1
	prior := prints(1)
	prior.Prio = -1
	return []api.Program{capped, prior, {}, program(does(reg(99, 1))), program(does(on(api.Lock, 2)))}
}

// The acts.
func ran(space, thread int) api.Act { return api.Act{Kind: api.ActRun, Space: space, Thread: thread} }
func ranBy(space, thread, c int) api.Act {
	return api.Act{Kind: api.ActRun, Space: space, Thread: thread, Choice: c}
}
func wasDone(space, c int) api.Act { return api.Act{Kind: api.ActDone, Space: space, Choice: c} }
func ticked() api.Act              { return api.Act{Kind: api.ActTick} }

// The entries.
func proc(a, b int) api.Step { return api.Step{Kind: api.StepProc, A: a, B: b} }
func tick() api.Step         { return api.Step{Kind: api.StepTick} }
func done(a, b int) api.Step { return api.Step{Kind: api.StepDone, A: a, B: b} }
func preempt(a int) api.Step { return api.Step{Kind: api.StepPreempt, A: a} }
func turn(a int) api.Step    { return api.Step{Kind: api.StepTurn, A: a} }
func share() api.Step        { return api.Step{Kind: api.StepShare} }

// record is that of what is done at once, or goes on.
func record(h uint64, op int, x, y uint64) api.Record {
	return api.Record{Thread: h, Op: op, X: x, Y: y, End: true}
}

// replays asks for a model by how many acts, and which error, and answers it.
func replays(t *testing.T, list []api.Program, acts []api.Act, count int, wanted api.Errno) *one.One {
	t.Helper()
	o, n, e := match.Replay(list, acts)
	if o == nil || n != count || e != wanted {
		t.Fatalf("Replay by %+v is %v, %d, %d; not %d, %d", acts, o, n, e, count, wanted)
	}
	return o
}

// refuses asks that there is no such model, by no acts and by some.
func refuses(t *testing.T, list []api.Program, wanted api.Errno) {
	t.Helper()
	for _, acts := range [][]api.Act{nil, {}, {ran(0, 0)}, {ticked(), ticked(), {}}, {{}}} {
		if o, n, e := match.Replay(list, acts); o != nil || n != 0 || e != wanted || e == api.OK {
			t.Fatalf("Replay of %v by %+v is %v, %d, %d; not nil, 0, %d", list, acts, o, n, e, wanted)
		}
	}
}

// tells asks for all records of a model's space, remembers for its memory, mayRun for who may run.
func tells(t *testing.T, o *one.One, space int, wanted ...api.Record) {
	t.Helper()
	if l := o.Records(space); !slices.Equal(l, wanted) {
		t.Fatalf("the records of %d are %+v, not %+v", space, l, wanted)
	}
}
func remembers(t *testing.T, o *one.One, space int, wanted ...uint64) {
	t.Helper()
	if l := o.Memory(space); !slices.Equal(l, wanted) {
		t.Fatalf("the memory of %d is %d, not %d", space, l, wanted)
	}
}
func mayRun(t *testing.T, o *one.One, space int, wanted ...int) {
	t.Helper()
	if l := o.Ready(space); !slices.Equal(l, wanted) {
		t.Fatalf("in %d may run %d, not %d", space, l, wanted)
	}
}

// views is all that a model shows.
type views struct {
	records [][]api.Record
	numbers [][]uint64
	threads []api.Thread
}

// viewsOf is that of a model.
func viewsOf(o *one.One) views {
	var v views
	for space := range api.MaxSpaces {
		v.records = append(v.records, o.Records(space))
		v.numbers = append(v.numbers, o.Memory(space), nil)
		for _, n := range o.Ready(space) {
			v.numbers[2*space+1] = append(v.numbers[2*space+1], uint64(n))
		}
		for slot := range api.MaxThreads {
			x, _ := o.Look(space, slot)
			v.threads = append(v.threads, x)
		}
	}
	return v
}

// sameViews: are two alike? Nil and empty lists are.
func sameViews(a, b views) bool {
	return slices.EqualFunc(a.records, b.records, slices.Equal) && slices.EqualFunc(a.numbers, b.numbers, slices.Equal) &&
		slices.Equal(a.threads, b.threads)
}

// isAs asks that two models show the same.
func isAs(t *testing.T, a, b *one.One) {
	t.Helper()
	if x, y := viewsOf(a), viewsOf(b); !sameViews(x, y) {
		t.Fatalf("it shows %+v, not %+v", x, y)
	}
}

// alike asks that two lists are the same, whichever comes first; differ, that they are not.
func alike(t *testing.T, a, b []api.Record) {
	t.Helper()
	if !match.Same(a, b) || !match.Same(b, a) {
		t.Errorf("%+v is not %+v", a, b)
	}
}
func differ(t *testing.T, a, b []api.Record) {
	t.Helper()
	if match.Same(a, b) || match.Same(b, a) {
		t.Errorf("%+v is %+v", a, b)
	}
}

// begin is a system of programs that may be, behind entries that may be done.
func begin(t *testing.T, procs int, list []api.Program, entries ...api.Step) *sys.Sys {
	t.Helper()
	s, e := sys.New(procs, list)
	if s == nil || e != api.OK {
		t.Fatalf("New(%d, %v) is %v, %d", procs, list, s, e)
	}
	do(t, s, entries...)
	return s
}

// do has entries be done.
func do(t *testing.T, s *sys.Sys, list ...api.Step) {
	t.Helper()
	for _, x := range list {
		if e := s.Do(x); e != api.OK {
			t.Fatalf("Do(%+v) is %d", x, e)
		}
	}
}

// commits has a processor take steps up to where so many acts more were done.
func commits(t *testing.T, s *sys.Sys, p, count int) {
	t.Helper()
	wanted := len(s.Log()) + count
	for range 1000 {
		if len(s.Log()) >= wanted {
			return
		}
		do(t, s, proc(p, 0))
	}
	t.Fatalf("%d does not come to have %d acts done", p, count)
}

// holds asks that a system holds by a list; fails, that it does not.
func holds(t *testing.T, list []api.Program, s *sys.Sys) {
	t.Helper()
	if !match.Holds(list, s) {
		t.Fatalf("by %v it does not hold behind %+v", list, s.Log())
	}
}
func fails(t *testing.T, list []api.Program, s *sys.Sys) {
	t.Helper()
	if match.Holds(list, s) {
		t.Fatalf("by %v it holds behind %+v", list, s.Log())
	}
}

// with is a list in which one program is another.
func with(list []api.Program, at int, p api.Program) []api.Program {
	other := slices.Clone(list)
	other[at] = p
	return other
}

// ends is numbers at their ends, and such as are others when half of them is lost.
func ends() []int {
	return []int{-1, math.MinInt, math.MinInt + 1, math.MaxInt, math.MaxInt - 1, 1 << 32, 1<<32 + 1, -1 << 32, 1 << 8, 1 << 16}
}
