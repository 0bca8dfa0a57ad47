package sys_test

import (
	"math"
	"slices"
	"testing"

	"drawknife/api"
	"drawknife/kern"
	"drawknife/lib"
	"drawknife/one"
	"drawknife/sys"
)

// set, reg, two, on, spawn, pipe and yield are instructions by what they have.
func set(a int, n uint64) api.Instr      { return api.Instr{Op: api.Set, A: a, N: n} }
func reg(op, a int) api.Instr            { return api.Instr{Op: op, A: a} }
func two(op, a, b int) api.Instr         { return api.Instr{Op: op, A: a, B: b} }
func on(op int, n uint64) api.Instr      { return api.Instr{Op: op, N: n} }
func spawn(n uint64) api.Instr           { return api.Instr{Op: api.Spawn, A: 1, N: n} }
func pipe(op, a int, n uint64) api.Instr { return api.Instr{Op: op, A: a, N: n} }
func yield() api.Instr                   { return api.Instr{Op: api.Yield} }

// does is a function; loop is one that goes on for ever, by plain instructions.
func does(list ...api.Instr) []api.Instr { return list }
func loop() []api.Instr                  { return does(set(2, 5), on(api.Jump, 0)) }

// program is functions, with some of each object.
func program(funcs ...[]api.Instr) api.Program {
	return api.Program{Funcs: funcs, Words: 2, Mutexes: 2, Conds: 2, Sems: []int{0, 1}, Pipes: []int{1, 1}, Blocks: 2}
}

// crew is a program that so many threads of come to run for ever, of a priority.
func crew(count, prio int) api.Program {
	main := slices.Repeat(does(spawn(1)), count-1)
	p := program(append(main, on(api.Jump, uint64(len(main)))), does(on(api.Jump, 0)))
	p.Prio = prio
	return p
}

// loops is a program for each of some priorities, of one thread each that goes on for ever.
func loops(prio ...int) []api.Program {
	var list []api.Program
	for _, n := range prio {
		list = append(list, crew(1, n))
	}
	return list
}

// alike is so many times one number.
func alike(count, n int) []int { return slices.Repeat([]int{n}, count) }

// Programs that may not be: for what they have, and for their code.
func tooMuch() api.Program { return api.Program{Funcs: [][]api.Instr{loop()}, Words: api.MaxWords + 1} }
func noCode() api.Program  { return api.Program{Funcs: [][]api.Instr{does(reg(99, 1))}} }

// begin is a system of programs that may be.
func begin(t *testing.T, procs int, list ...api.Program) *sys.Sys {
	t.Helper()
	s, e := sys.New(procs, list)
	if s == nil || e != api.OK {
		t.Fatalf("New(%d, %v) is %v, %d", procs, list, s, e)
	}
	return s
}

// refuses asks that there is no such system.
func refuses(t *testing.T, procs int, list []api.Program, wanted api.Errno) {
	t.Helper()
	if s, e := sys.New(procs, list); s != nil || e != wanted {
		t.Fatalf("New(%d, %v) is %v, %d; not nil, %d", procs, list, s, e, wanted)
	}
}

// The entries.
func proc(a, b int) api.Step   { return api.Step{Kind: api.StepProc, A: a, B: b} }
func tick() api.Step           { return api.Step{Kind: api.StepTick} }
func done(a, b int) api.Step   { return api.Step{Kind: api.StepDone, A: a, B: b} }
func preempt(a int) api.Step   { return api.Step{Kind: api.StepPreempt, A: a} }
func turn(a int) api.Step      { return api.Step{Kind: api.StepTurn, A: a} }
func share() api.Step          { return api.Step{Kind: api.StepShare} }
func ran(a, b, c int) api.Act  { return api.Act{Kind: api.ActRun, Space: a, Thread: b, Choice: c} }
func wasDone(a, b int) api.Act { return api.Act{Kind: api.ActDone, Space: a, Choice: b} }
func ticked() api.Act          { return api.Act{Kind: api.ActTick} }

// do has entries be done.
func do(t *testing.T, s *sys.Sys, list ...api.Step) {
	t.Helper()
	for _, x := range list {
		if e := s.Do(x); e != api.OK {
			t.Fatalf("Do(%+v) is %d", x, e)
		}
	}
}

// mayNot asks that an entry is an error, and that nothing is another then.
func mayNot(t *testing.T, s *sys.Sys, x api.Step, wanted api.Errno) {
	t.Helper()
	ahead := shows(s)
	if e := s.Do(x); e != wanted {
		t.Fatalf("Do(%+v) is %d, not %d", x, e, wanted)
	}
	still(t, s, ahead)
}

// logged asks which acts were done since there were so many, and answers how many there are.
func logged(t *testing.T, s *sys.Sys, since int, wanted ...api.Act) int {
	t.Helper()
	log := s.Log()
	if len(log) < since || !slices.Equal(log[since:], wanted) {
		t.Fatalf("behind %d there were done %+v, not %+v", since, log, wanted)
	}
	return len(log)
}

// quiet has entries be done that are no acts.
func quiet(t *testing.T, s *sys.Sys, list ...api.Step) {
	t.Helper()
	count := len(s.Log())
	do(t, s, list...)
	logged(t, s, count)
}

// acts has an entry be done that is one act.
func acts(t *testing.T, s *sys.Sys, x api.Step, wanted api.Act) {
	t.Helper()
	count := len(s.Log())
	do(t, s, x)
	logged(t, s, count, wanted)
}

// mode is what a processor is in.
func mode(s *sys.Sys, p int) int {
	space, _ := s.Kern().Owner(p)
	v, _ := s.Kern().Lib(space).Look(p)
	return v.Mode
}

// to has a processor take steps, by a choice, up to where it is in a mode.
func to(t *testing.T, s *sys.Sys, p, choice, wanted int) {
	t.Helper()
	for range 1000 {
		if mode(s, p) == wanted {
			return
		}
		do(t, s, proc(p, choice))
	}
	t.Fatalf("%d does not come to be in %d", p, wanted)
}

// rests has a processor take steps up to where nobody of its space may run.
func rests(t *testing.T, s *sys.Sys, p int) {
	t.Helper()
	to(t, s, p, 0, api.Resting)
}

// owned asks whose the processors are, -1: nobody's.
func owned(t *testing.T, s *sys.Sys, wanted ...int) {
	t.Helper()
	if list := owners(s.Kern()); !slices.Equal(list, wanted) {
		t.Fatalf("they are those of %d, not %d", list, wanted)
	}
}
func owners(k *kern.Kern) []int {
	var list []int
	for p := range k.Procs() {
		space, had := k.Owner(p)
		if !had {
			space = -1
		}
		list = append(list, space)
	}
	return list
}

// ready asks which threads of a space may run.
func ready(t *testing.T, s *sys.Sys, space int, wanted ...int) {
	t.Helper()
	if list := s.Kern().Lib(space).Space().Ready(); !slices.Equal(list, wanted) {
		t.Fatalf("in %d may run %d, not %d", space, list, wanted)
	}
}

// isTold asks that a processor of a space is in a new vessel with events.
func isTold(t *testing.T, s *sys.Sys, p, space int, list ...api.Event) {
	t.Helper()
	v, had := s.Kern().Lib(space).Look(p)
	if !had || v.Mode != api.Upcall || v.Thread != -1 || !slices.Equal(v.Events, list) {
		t.Fatalf("%d is in %+v, not told %v", p, v, list)
	}
}

// The events that are asked for often.
var added = api.Event{Kind: api.Added, Thread: -1}

func unblocked(thread int) api.Event { return api.Event{Kind: api.Unblocked, Thread: thread} }
func preempted(thread int) api.Event { return api.Event{Kind: api.Preempted, Thread: thread} }
func cut(mode, thread int) api.Event {
	return api.Event{Kind: api.Preempted, Thread: thread, Mode: mode}
}

// waits asks which events wait in a space.
func waits(t *testing.T, s *sys.Sys, space int, wanted ...api.Event) {
	t.Helper()
	if list := s.Kern().Lib(space).Waiting(); !slices.Equal(list, wanted) {
		t.Fatalf("in %d there wait %v, not %v", space, list, wanted)
	}
}

// turnIs asks who is first.
func turnIs(t *testing.T, s *sys.Sys, wanted int) {
	t.Helper()
	if n := s.Turn(); n != wanted {
		t.Fatalf("the turn is %d, not %d", n, wanted)
	}
}

// shown is what a system shows.
type shown struct {
	numbers []int
	log     []api.Act
	records [][]api.Record
	memory  [][]uint64
}

// shows is all that a system shows.
func shows(s *sys.Sys) shown {
	k := s.Kern()
	x := shown{numbers: append(ofKern(k), s.Turn()), log: s.Log()}
	for space := range k.Spaces() {
		x.records = append(x.records, s.Records(space))
		x.memory = append(x.memory, s.Memory(space))
	}
	return x
}

// ofKern is what a kernel shows of its processors and libraries.
func ofKern(k *kern.Kern) []int {
	list := append([]int{k.Procs(), k.Spaces()}, owners(k)...)
	for space := range k.Spaces() {
		list = append(list, ofLib(k.Lib(space), k.Procs())...)
	}
	return list
}

// ofLib is what a library shows.
func ofLib(l *lib.Lib, procs int) []int {
	list := append([]int{-3}, l.Space().Ready()...)
	if l.Locked() {
		list = append(list, -4)
	}
	for p := range procs {
		v, _ := l.Look(p)
		list = append(list, -5, v.Mode, v.Thread)
		list = append(list, ofEvents(v.Events)...)
		list = append(list, -6)
		list = append(list, l.Rows().Row(p)...)
	}
	return append(list, ofEvents(l.Waiting())...)
}

func ofEvents(events []api.Event) []int {
	list := []int{-7}
	for _, e := range events {
		list = append(list, e.Kind, e.Thread, e.Mode)
	}
	return list
}

// same: are two shown alike?
func same(a, b shown) bool {
	return slices.Equal(a.numbers, b.numbers) && slices.Equal(a.log, b.log) &&
		slices.EqualFunc(a.records, b.records, slices.Equal) && slices.EqualFunc(a.memory, b.memory, slices.Equal)
}

// still asks that a system shows what it did.
func still(t *testing.T, s *sys.Sys, ahead shown) {
	t.Helper()
	if now := shows(s); !same(now, ahead) {
		t.Fatalf("there came to be %v, not %v", now, ahead)
	}
}

// follows asks that the model comes to what a system shows, by the acts of its log.
func follows(t *testing.T, s *sys.Sys, list []api.Program) {
	t.Helper()
	o, e := one.New(list)
	if e != api.OK {
		t.Fatalf("the model is %d", e)
	}
	for n, a := range s.Log() {
		if e := o.Do(a); e != api.OK {
			t.Fatalf("the model's act %d, %+v, is %d", n, a, e)
		}
	}
	isAs(t, s, o)
}

// isAs asks that of each space a system shows what the model does.
func isAs(t *testing.T, s *sys.Sys, o *one.One) {
	t.Helper()
	for space := range s.Kern().Spaces() {
		ready(t, s, space, o.Ready(space)...)
		if l := s.Records(space); !slices.Equal(l, o.Records(space)) {
			t.Fatalf("the records of %d are %+v, not %+v", space, l, o.Records(space))
		}
		if l := s.Memory(space); !slices.Equal(l, o.Memory(space)) {
			t.Fatalf("the memory of %d is %d, not %d", space, l, o.Memory(space))
		}
	}
}

// ends is numbers at their ends, and such as are others when half of them is lost.
func ends() []int {
	return []int{0, 1, -1, math.MinInt, math.MinInt + 1, math.MaxInt, math.MaxInt - 1, 1 << 32, 1<<32 + 1, -1 << 32, 1 << 8, 1 << 16}
}

// none is numbers that are not from 0 to just below count, also those that are when part of them is lost.
func none(count int) []int {
	var list []int
	for _, n := range append(ends(), count, count+1, 63, 64, 65, 256, 257) {
		if n < 0 || n >= count {
			list = append(list, n)
		}
	}
	for low := range count {
		list = append(list, low+1<<32, low-1<<32, low+math.MinInt, low+1<<8+64, low+1<<16)
	}
	return list
}
