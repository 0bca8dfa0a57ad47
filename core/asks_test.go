package core_test

import (
	"math"
	"slices"
	"testing"

	"drawknife/api"
	"drawknife/core"
)

// The first handles of the first slots.
const (
	first  = 1*65536 + 1
	second = 1*65536 + 2
	third  = 1*65536 + 3
	fourth = 1*65536 + 4
)

// stale is an error's number that no instruction sets, so that one sees whether the error was set.
const stale = 99

// set, one, two and on are instructions by what they have.
func set(a int, n uint64) api.Instr { return api.Instr{Op: api.Set, A: a, N: n} }
func one(op, a int) api.Instr       { return api.Instr{Op: op, A: a} }
func two(op, a, b int) api.Instr    { return api.Instr{Op: op, A: a, B: b} }
func on(op int, n uint64) api.Instr { return api.Instr{Op: op, N: n} }

// spawn begins a function; wait waits for a condition, with a mutex; pipe puts or gets.
func spawn(a, b int, n uint64) api.Instr { return api.Instr{Op: api.Spawn, A: a, B: b, N: n} }
func wait(c uint64, m int) api.Instr     { return api.Instr{Op: api.Wait, C: m, N: c} }
func pipe(op, a int, n uint64) api.Instr { return api.Instr{Op: op, A: a, N: n} }

// soil has a thread's error be stale.
func soil() api.Instr { return set(7, stale) }

// code is functions.
func code(funcs ...[]api.Instr) api.Program { return api.Program{Funcs: funcs} }

// does is one function.
func does(list ...api.Instr) []api.Instr { return list }

// times is an instruction so many times.
func times(n int, i api.Instr) []api.Instr { return slices.Repeat([]api.Instr{i}, n) }

// regs is registers, told by number and word in turn.
func regs(told ...uint64) api.Regs8 {
	var r api.Regs8
	for k := 0; k < len(told); k += 2 {
		r[told[k]] = told[k+1]
	}
	return r
}

// begin is a space of a program that may be.
func begin(t *testing.T, p api.Program) *core.Space {
	t.Helper()
	s, e := core.New(p)
	if s == nil || e != api.OK {
		t.Fatalf("New(%v) is %v, %d", p, s, e)
	}
	return s
}

// The effects that are asked for often.
var (
	nothing = core.Effect{}
	stops   = core.Effect{Stopped: true}
	ends    = core.Effect{Ended: true}
	yields  = core.Effect{Yielded: true}
)

// wakes, stopsAndWakes and endsAndWakes are effects by which some go on.
func wakes(who ...int) core.Effect         { return core.Effect{Woken: who} }
func stopsAndWakes(who ...int) core.Effect { return core.Effect{Woken: who, Stopped: true} }
func endsAndWakes(who ...int) core.Effect  { return core.Effect{Woken: who, Ended: true} }

// sameEffect: are two effects the same?
func sameEffect(a, b core.Effect) bool {
	return slices.Equal(a.Woken, b.Woken) && a.Stopped == b.Stopped && a.Ended == b.Ended && a.Yielded == b.Yielded
}

// runsBy asks for the effect of a Run with a choice.
func runsBy(t *testing.T, s *core.Space, slot, choice int, wanted core.Effect) {
	t.Helper()
	if e, err := s.Run(slot, choice); !sameEffect(e, wanted) || err != api.OK {
		t.Fatalf("Run(%d, %d) is %+v, %d; not %+v, 0", slot, choice, e, err, wanted)
	}
}

// runs asks for the effects of one Run behind the other.
func runs(t *testing.T, s *core.Space, slot int, wanted ...core.Effect) {
	t.Helper()
	for _, w := range wanted {
		runsBy(t, s, slot, 0, w)
	}
}

// passes has a thread do so many instructions that have no effect.
func passes(t *testing.T, s *core.Space, slot, count int) {
	t.Helper()
	for range count {
		runs(t, s, slot, nothing)
	}
}

// refuses asks for an error of Run, beside which is nothing.
func refuses(t *testing.T, s *core.Space, slot int, wanted api.Errno) {
	t.Helper()
	for _, choice := range []int{0, 1, -1, math.MinInt, math.MaxInt} {
		if e, err := s.Run(slot, choice); !sameEffect(e, nothing) || err != wanted {
			t.Fatalf("Run(%d, %d) is %+v, %d; not nothing, %d", slot, choice, e, err, wanted)
		}
	}
}

// finishes asks that a request is done, and who goes on.
func finishes(t *testing.T, s *core.Space, k, who int) {
	t.Helper()
	if e, err := s.Done(k); !sameEffect(e, wakes(who)) || err != api.OK {
		t.Fatalf("Done(%d) is %+v, %d; not that %d goes on", k, e, err, who)
	}
}

// finishesNot asks for an error of Done.
func finishesNot(t *testing.T, s *core.Space, wanted api.Errno) {
	t.Helper()
	for _, k := range []int{0, 1, -1, math.MinInt, math.MaxInt} {
		if e, err := s.Done(k); !sameEffect(e, nothing) || err != wanted {
			t.Fatalf("Done(%d) is %+v, %d; not nothing, %d", k, e, err, wanted)
		}
	}
}

// ticks asks who goes on by a moment.
func ticks(t *testing.T, s *core.Space, who ...int) {
	t.Helper()
	if e := s.Tick(); !sameEffect(e, wakes(who...)) {
		t.Fatalf("Tick() is %+v, not that %d go on", e, who)
	}
}

// looks asks for a thread.
func looks(t *testing.T, s *core.Space, slot int, wanted api.Thread) {
	t.Helper()
	if x, ok := s.Look(slot); x != wanted || !ok {
		t.Fatalf("Look(%d) is %+v, %t; not %+v, true", slot, x, ok, wanted)
	}
}

// looksNot asks that no thread has a slot.
func looksNot(t *testing.T, s *core.Space, slots ...int) {
	t.Helper()
	for _, slot := range slots {
		if x, ok := s.Look(slot); x != (api.Thread{}) || ok {
			t.Fatalf("Look(%d) is %+v, %t; not nothing, false", slot, x, ok)
		}
	}
}

// is asks why a thread does not run, or that it does.
func is(t *testing.T, s *core.Space, slot, why int) {
	t.Helper()
	if x, ok := s.Look(slot); x.Why != why || !ok {
		t.Fatalf("Look(%d) is %+v, %t; not Why %d", slot, x, ok, why)
	}
	if wanted := why == api.Runs; slices.Contains(s.Ready(), slot) != wanted || (s.Class(slot) != 0) != wanted {
		t.Fatalf("%d is %d, but Ready %d, Class %d", slot, why, s.Ready(), s.Class(slot))
	}
	if why != api.Runs {
		refuses(t, s, slot, api.ErrBusy)
	}
}

// has asks for a register.
func has(t *testing.T, s *core.Space, slot, register int, wanted uint64) {
	t.Helper()
	if x, ok := s.Look(slot); x.Regs[register] != wanted || !ok {
		t.Fatalf("register %d of %d has %d, not %d", register, slot, x.Regs[register], wanted)
	}
}

// readyAre asks who may run.
func readyAre(t *testing.T, s *core.Space, wanted ...int) {
	t.Helper()
	if list := s.Ready(); !slices.Equal(list, wanted) {
		t.Fatalf("Ready() is %d, not %d", list, wanted)
	}
}

// tells asks for all records.
func tells(t *testing.T, s *core.Space, wanted ...api.Record) {
	t.Helper()
	if list := s.Records(); !slices.Equal(list, wanted) {
		t.Fatalf("Records() is\n%+v, not\n%+v", list, wanted)
	}
}

// toldLast asks for the last records.
func toldLast(t *testing.T, s *core.Space, wanted ...api.Record) {
	t.Helper()
	list := s.Records()
	if len(list) < len(wanted) || !slices.Equal(list[len(list)-len(wanted):], wanted) {
		t.Fatalf("Records() is\n%+v, whose last are not\n%+v", list, wanted)
	}
}

// did is the record of what was done at once, failed of what may not be, began of what blocks, ended of what goes on.
func did(handle uint64, op int, x, y uint64) api.Record {
	return api.Record{Thread: handle, Op: op, X: x, Y: y, End: true}
}
func failed(handle uint64, op int, x, y uint64, e api.Errno) api.Record {
	return api.Record{Thread: handle, Op: op, X: x, Y: y, Result: e, End: true}
}
func began(handle uint64, op int, x, y uint64) api.Record {
	return api.Record{Thread: handle, Op: op, X: x, Y: y}
}
func ended(handle uint64, op int, y uint64) api.Record {
	return api.Record{Thread: handle, Op: op, Y: y, End: true}
}

// remembers asks for the memory.
func remembers(t *testing.T, s *core.Space, wanted ...uint64) {
	t.Helper()
	if list := s.Memory(); !slices.Equal(list, wanted) {
		t.Fatalf("Memory() is %d, not %d", list, wanted)
	}
}

// noSlots is numbers that are no slots of a space.
func noSlots() []int {
	return []int{math.MinInt, -1 << 32, -api.MaxThreads, -1, api.MaxThreads, api.MaxThreads + 1, 65535, 65536, 65537, 1 << 32, math.MaxInt}
}
