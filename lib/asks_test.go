package lib_test

import (
	"math"
	"slices"
	"testing"

	"drawknife/api"
	"drawknife/core"
	"drawknife/lib"
	"drawknife/ready"
)

// set, one, two and on are instructions by what they have; spawn begins a function, pipe puts or gets.
func set(a int, n uint64) api.Instr      { return api.Instr{Op: api.Set, A: a, N: n} }
func one(op, a int) api.Instr            { return api.Instr{Op: op, A: a} }
func two(op, a, b int) api.Instr         { return api.Instr{Op: op, A: a, B: b} }
func on(op int, n uint64) api.Instr      { return api.Instr{Op: op, N: n} }
func spawn(n uint64) api.Instr           { return api.Instr{Op: api.Spawn, A: 1, N: n} }
func pipe(op, a int, n uint64) api.Instr { return api.Instr{Op: op, A: a, N: n} }
func yield() api.Instr                   { return api.Instr{Op: api.Yield} }

// does is a function.
func does(list ...api.Instr) []api.Instr { return list }

// program is functions, with some of each object.
func program(funcs ...[]api.Instr) api.Program {
	return api.Program{Funcs: funcs, Words: 2, Mutexes: 2, Conds: 2, Sems: []int{0, 1}, Pipes: []int{1, 1}, Blocks: 2}
}

// space is one of functions.
func space(t *testing.T, funcs ...[]api.Instr) *core.Space {
	t.Helper()
	s, e := core.New(program(funcs...))
	if e != api.OK {
		t.Fatalf("these may not be: %v, %d", funcs, e)
	}
	return s
}

// begin is a library of functions.
func begin(t *testing.T, procs int, funcs ...[]api.Instr) *lib.Lib {
	t.Helper()
	return lib.New(space(t, funcs...), procs)
}

// The events that are asked for often.
var added = api.Event{Kind: api.Added, Thread: -1}

func unblocked(thread int) api.Event { return api.Event{Kind: api.Unblocked, Thread: thread} }
func blocked(thread int) api.Event   { return api.Event{Kind: api.Blocked, Thread: thread} }
func preempted(thread int) api.Event { return api.Event{Kind: api.Preempted, Thread: thread} }
func cut(mode, thread int) api.Event {
	return api.Event{Kind: api.Preempted, Thread: thread, Mode: mode}
}
func events(list ...api.Event) []api.Event { return list }

// spare is what stands in the spare room of a list that is handed in, and dust what all is written over with later. Both would be seen, were they taken for events.
var (
	spare = api.Event{Kind: api.Preempted, Thread: 7001, Mode: 7001}
	dust  = api.Event{Kind: api.Preempted, Thread: 7002, Mode: 7002}
)

// overwrite writes over a list, its spare room included.
func overwrite[T any](l []T, with T) {
	for k := range l[:cap(l)] {
		l[:cap(l)][k] = with
	}
}

// tell hands in events with spare room, asks that they are not touched, and writes over them.
func tell(t *testing.T, l *lib.Lib, list ...api.Event) {
	t.Helper()
	roomy := slices.Repeat([]api.Event{spare}, len(list)+4)
	copy(roomy, list)
	l.Tell(roomy[:len(list)])
	if !slices.Equal(roomy[:len(list)], list) || !slices.Equal(roomy[len(list):], slices.Repeat([]api.Event{spare}, 4)) {
		t.Fatalf("Tell(%v) made %v of it", list, roomy)
	}
	overwrite(roomy, dust)
}

// grants, revokes and preempts ask that a processor comes, goes, is told.
func grants(t *testing.T, l *lib.Lib, procs ...int) {
	t.Helper()
	for _, proc := range procs {
		if !l.Grant(proc) {
			t.Fatalf("Grant(%d) is false", proc)
		}
	}
}
func revokes(t *testing.T, l *lib.Lib, procs ...int) {
	t.Helper()
	for _, proc := range procs {
		if !l.Revoke(proc) {
			t.Fatalf("Revoke(%d) is false", proc)
		}
	}
}
func preempts(t *testing.T, l *lib.Lib, proc int) {
	t.Helper()
	if !l.Preempt(proc) {
		t.Fatalf("Preempt(%d) is false", proc)
	}
}

// is asks what a processor is in, twice, since what was answered first is written over.
func is(t *testing.T, l *lib.Lib, proc, mode, thread int, list ...api.Event) {
	t.Helper()
	for range 2 {
		v, ok := l.Look(proc)
		if v.Mode != mode || v.Thread != thread || !slices.Equal(v.Events, list) || !ok {
			t.Fatalf("Look(%d) is %+v, %t; not %d, %d, %v, true", proc, v, ok, mode, thread, list)
		}
		overwrite(v.Events, dust)
	}
}

// isTold asks that a processor is in a new vessel with events.
func isTold(t *testing.T, l *lib.Lib, proc int, list ...api.Event) {
	t.Helper()
	is(t, l, proc, api.Upcall, -1, list...)
}

// hasNot asks that a space has not these processors.
func hasNot(t *testing.T, l *lib.Lib, procs ...int) {
	t.Helper()
	for _, proc := range procs {
		if v, ok := l.Look(proc); v.Mode != 0 || v.Thread != 0 || len(v.Events) != 0 || ok {
			t.Fatalf("Look(%d) is %+v, %t; not nothing, false", proc, v, ok)
		}
		if l.Revoke(proc) || l.Preempt(proc) {
			t.Fatalf("%d may go or be told", proc)
		}
		for _, choice := range ends() {
			if did, e := l.Step(proc, choice); !sameDid(did, lib.Did{}) || e != api.ErrIdle {
				t.Fatalf("Step(%d, %d) is %+v, %d; not nothing, ErrIdle", proc, choice, did, e)
			}
		}
	}
}

// had asks which processors a space has.
func had(t *testing.T, l *lib.Lib, wanted ...int) {
	t.Helper()
	for range 2 {
		list := l.Procs()
		if !slices.Equal(list, wanted) {
			t.Fatalf("Procs() is %d, not %d", list, wanted)
		}
		overwrite(list, 7003)
	}
}

// waits asks which events wait.
func waits(t *testing.T, l *lib.Lib, wanted ...api.Event) {
	t.Helper()
	for range 2 {
		list := l.Waiting()
		if !slices.Equal(list, wanted) {
			t.Fatalf("Waiting() is %v, not %v", list, wanted)
		}
		overwrite(list, dust)
	}
}

// locked asks whether a section is on its way.
func locked(t *testing.T, l *lib.Lib, wanted bool) {
	t.Helper()
	if l.Locked() != wanted {
		t.Fatalf("Locked() is %t", !wanted)
	}
}

// row asks who is in a processor's row, in order.
func row(t *testing.T, l *lib.Lib, proc int, wanted ...int) {
	t.Helper()
	if list := l.Rows().Row(proc); !slices.Equal(list, wanted) {
		t.Fatalf("row %d is %d, not %d", proc, list, wanted)
	}
}

// comes puts threads into a row, by the rows that the library hands out.
func comes(t *testing.T, r *ready.Rows, proc int, threads ...int) {
	t.Helper()
	for _, thread := range threads {
		if !r.Add(proc, thread) {
			t.Fatalf("%d does not come into row %d", thread, proc)
		}
	}
}

// sameDid: are two the same?
func sameDid(a, b lib.Did) bool {
	return a.Commit == b.Commit && a.Slot == b.Slot && sameEffect(a.Effect, b.Effect)
}

// sameEffect: are two the same?
func sameEffect(a, b core.Effect) bool {
	return slices.Equal(a.Woken, b.Woken) && a.Stopped == b.Stopped && a.Ended == b.Ended && a.Yielded == b.Yielded
}

// stepsBy asks that a step by a choice is no commit.
func stepsBy(t *testing.T, l *lib.Lib, proc, choice int) {
	t.Helper()
	if did, e := l.Step(proc, choice); !sameDid(did, lib.Did{}) || e != api.OK {
		t.Fatalf("Step(%d, %d) is %+v, %d; not nothing, 0", proc, choice, did, e)
	}
}

// steps asks that a processor's steps are no commits.
func steps(t *testing.T, l *lib.Lib, proc, count int) {
	t.Helper()
	for range count {
		stepsBy(t, l, proc, 0)
	}
}

// commitsBy asks that a step by a choice is a commit of a thread, with an effect; that is written over.
func commitsBy(t *testing.T, l *lib.Lib, proc, choice, slot int, effect core.Effect) {
	t.Helper()
	did, e := l.Step(proc, choice)
	if !sameDid(did, lib.Did{Commit: true, Slot: slot, Effect: effect}) || e != api.OK {
		t.Fatalf("Step(%d, %d) is %+v, %d; not a commit of %d, %+v, 0", proc, choice, did, e, slot, effect)
	}
	overwrite(did.Effect.Woken, 7004)
}

// commits asks for a commit by choice 0.
func commits(t *testing.T, l *lib.Lib, proc, slot int, effect core.Effect) {
	t.Helper()
	commitsBy(t, l, proc, 0, slot, effect)
}

// The effects that are asked for often.
var (
	nothing = core.Effect{}
	stops   = core.Effect{Stopped: true}
	ended   = core.Effect{Ended: true}
	yields  = core.Effect{Yielded: true}
)

// wakes and endsAndWakes are effects by which some go on.
func wakes(who ...int) core.Effect        { return core.Effect{Woken: who} }
func endsAndWakes(who ...int) core.Effect { return core.Effect{Woken: who, Ended: true} }

// mode is a processor's.
func mode(l *lib.Lib, proc int) int {
	v, _ := l.Look(proc)
	return v.Mode
}

// to has a processor take steps up to where it is in a mode.
func to(t *testing.T, l *lib.Lib, proc, wanted int) {
	t.Helper()
	for range 1000 {
		if mode(l, proc) == wanted {
			return
		}
		if _, e := l.Step(proc, 0); e != api.OK {
			t.Fatalf("Step(%d, 0) is %d", proc, e)
		}
	}
	t.Fatalf("%d does not come to be in %d", proc, wanted)
}

// doesBy has a thread do instructions ahead of any library.
func doesBy(t *testing.T, s *core.Space, slot, count int) {
	t.Helper()
	for range count {
		if _, e := s.Run(slot, 0); e != api.OK {
			t.Fatalf("Run(%d) is %d", slot, e)
		}
	}
}

// may asks who may run.
func may(t *testing.T, l *lib.Lib, wanted ...int) {
	t.Helper()
	if list := l.Space().Ready(); !slices.Equal(list, wanted) {
		t.Fatalf("Ready() is %d, not %d", list, wanted)
	}
}

// ends is numbers at their ends, and such as are others when half of them is lost.
func ends() []int {
	return []int{0, 1, -1, math.MinInt, math.MinInt + 1, math.MaxInt, math.MaxInt - 1, 1 << 32, 1<<32 + 1, -1 << 32, 1 << 8, 1 << 16}
}

// noProcs is numbers that are no processors of so many.
func noProcs(count int) []int {
	list := []int{-1, -2, -64, math.MinInt, math.MinInt + 1, math.MaxInt, math.MaxInt - 1, count, count + 1, 64, 65, 128, 1 << 20}
	for low := range count + 1 {
		list = append(list, low+1<<8, low+1<<16, low+1<<32, low-1<<32, low+math.MinInt)
	}
	return list
}
