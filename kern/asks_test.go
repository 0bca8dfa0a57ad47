package kern_test

import (
	"math"
	"slices"
	"testing"

	"drawknife/api"
	"drawknife/core"
	"drawknife/kern"
	"drawknife/lib"
)

// set, one, two, on, spawn and pipe are instructions by what they have.
func set(a int, n uint64) api.Instr      { return api.Instr{Op: api.Set, A: a, N: n} }
func one(op, a int) api.Instr            { return api.Instr{Op: op, A: a} }
func two(op, a, b int) api.Instr         { return api.Instr{Op: op, A: a, B: b} }
func on(op int, n uint64) api.Instr      { return api.Instr{Op: op, N: n} }
func spawn(n uint64) api.Instr           { return api.Instr{Op: api.Spawn, A: 1, N: n} }
func pipe(op, a int, n uint64) api.Instr { return api.Instr{Op: op, A: a, N: n} }
func yield() api.Instr                   { return api.Instr{Op: api.Yield} }

// does is a function; loop is one that goes on for ever, by plain instructions.
func does(list ...api.Instr) []api.Instr { return list }
func loop() []api.Instr                  { return does(set(2, 5), on(api.Jump, 0)) }

// program is functions, with some of each object.
func program(funcs ...[]api.Instr) api.Program {
	return api.Program{Funcs: funcs, Words: 2, Mutexes: 2, Conds: 2, Sems: []int{0, 1}, Pipes: []int{1, 1}, Blocks: 2}
}

// alike is so many programs of the same functions.
func alike(count int, funcs ...[]api.Instr) []api.Program {
	return slices.Repeat([]api.Program{program(funcs...)}, count)
}

// Programs that may not be: for what they have, and for their code.
func tooMuch() api.Program { return api.Program{Funcs: [][]api.Instr{loop()}, Words: api.MaxWords + 1} }
func noCode() api.Program  { return api.Program{Funcs: [][]api.Instr{does(one(99, 1))}} }

// begin is a kernel of programs that may be.
func begin(t *testing.T, procs int, list ...api.Program) *kern.Kern {
	t.Helper()
	k, e := kern.New(procs, list)
	if k == nil || e != api.OK {
		t.Fatalf("New(%d, %v) is %v, %d", procs, list, k, e)
	}
	return k
}

// refuses asks that there is no such kernel.
func refuses(t *testing.T, procs int, list []api.Program, wanted api.Errno) {
	t.Helper()
	if k, e := kern.New(procs, list); k != nil || e != wanted {
		t.Fatalf("New(%d, %v) is %v, %d; not nil, %d", procs, list, k, e, wanted)
	}
}

// The events that are asked for often.
var added = api.Event{Kind: api.Added, Thread: -1}

func unblocked(thread int) api.Event { return api.Event{Kind: api.Unblocked, Thread: thread} }
func blocked(thread int) api.Event   { return api.Event{Kind: api.Blocked, Thread: thread} }
func preempted(thread int) api.Event { return api.Event{Kind: api.Preempted, Thread: thread} }
func cut(mode, thread int) api.Event {
	return api.Event{Kind: api.Preempted, Thread: thread, Mode: mode}
}

// overwrite writes over a list, its spare room included.
func overwrite(l []int) {
	for k := range l[:cap(l)] {
		l[:cap(l)][k] = 7004
	}
}

// counts asks for numbers that a call answers, twice, since what was answered first is written over.
func counts(t *testing.T, name string, call func() []int, wanted ...int) {
	t.Helper()
	for range 2 {
		list := call()
		if !slices.Equal(list, wanted) {
			t.Fatalf("%s() is %d, not %d", name, list, wanted)
		}
		overwrite(list)
	}
}

// free and demands ask who is nobody's, and what the spaces could use.
func free(t *testing.T, k *kern.Kern, wanted ...int) {
	t.Helper()
	counts(t, "Free", k.Free, wanted...)
}
func demands(t *testing.T, k *kern.Kern, wanted ...int) {
	t.Helper()
	counts(t, "Demand", k.Demand, wanted...)
}

// is asks that a call's error is one.
func is(t *testing.T, e, wanted api.Errno) {
	t.Helper()
	if e != wanted {
		t.Fatalf("it is %d, not %d", e, wanted)
	}
}

// gives has a space get processors.
func gives(t *testing.T, k *kern.Kern, space int, procs ...int) {
	t.Helper()
	for _, proc := range procs {
		if e := k.Give(proc, space); e != api.OK {
			t.Fatalf("Give(%d, %d) is %d", proc, space, e)
		}
	}
}

// takes has processors go.
func takes(t *testing.T, k *kern.Kern, procs ...int) {
	t.Helper()
	for _, proc := range procs {
		if e := k.Take(proc); e != api.OK {
			t.Fatalf("Take(%d) is %d", proc, e)
		}
	}
}

// owns asks whose a processor is, by the kernel, and that just that space has it.
func owns(t *testing.T, k *kern.Kern, proc, wanted int) {
	t.Helper()
	if space, ok := k.Owner(proc); space != wanted || !ok {
		t.Fatalf("Owner(%d) is %d, %t; not %d, true", proc, space, ok, wanted)
	}
	for space := range k.Spaces() {
		if _, has := k.Lib(space).Look(proc); has != (space == wanted) {
			t.Fatalf("space %d has %d: %t, but it is that of %d", space, proc, has, wanted)
		}
	}
}

// nobodys asks that processors are nobody's, and do nothing.
func nobodys(t *testing.T, k *kern.Kern, procs ...int) {
	t.Helper()
	for _, proc := range procs {
		if space, ok := k.Owner(proc); space != 0 || ok {
			t.Fatalf("Owner(%d) is %d, %t; not 0, false", proc, space, ok)
		}
		for space := range k.Spaces() {
			if _, has := k.Lib(space).Look(proc); has {
				t.Fatalf("space %d has %d, that is nobody's", space, proc)
			}
		}
		mayNot(t, k, proc, api.ErrIdle)
	}
}

// mayNot asks that Take, Step by any choice, and Preempt of a processor are an error.
func mayNot(t *testing.T, k *kern.Kern, proc int, wanted api.Errno) {
	t.Helper()
	if e, f := k.Take(proc), k.Preempt(proc); e != wanted || f != wanted {
		t.Fatalf("Take(%d) is %d, Preempt %d; not %d", proc, e, f, wanted)
	}
	for _, choice := range ends() {
		if space, did, e := k.Step(proc, choice); space != 0 || !sameDid(did, lib.Did{}) || e != wanted {
			t.Fatalf("Step(%d, %d) is %d, %+v, %d; not 0, nothing, %d", proc, choice, space, did, e, wanted)
		}
	}
}

// sameDid, sameEffect: are two the same?
func sameDid(a, b lib.Did) bool {
	return a.Commit == b.Commit && a.Slot == b.Slot && sameEffect(a.Effect, b.Effect)
}
func sameEffect(a, b core.Effect) bool {
	return slices.Equal(a.Woken, b.Woken) && a.Stopped == b.Stopped && a.Ended == b.Ended && a.Yielded == b.Yielded
}

// stepsBy asks for what comes of a step by a choice.
func stepsBy(t *testing.T, k *kern.Kern, proc, choice, space int, wanted lib.Did) {
	t.Helper()
	n, did, e := k.Step(proc, choice)
	if n != space || !sameDid(did, wanted) || e != api.OK {
		t.Fatalf("Step(%d, %d) is %d, %+v, %d; not %d, %+v, 0", proc, choice, n, did, e, space, wanted)
	}
	overwrite(did.Effect.Woken)
}

// steps asks that a processor's steps are no commits.
func steps(t *testing.T, k *kern.Kern, proc, space, count int) {
	t.Helper()
	for range count {
		stepsBy(t, k, proc, 0, space, lib.Did{})
	}
}

// commits asks for a commit of a thread, with an effect.
func commits(t *testing.T, k *kern.Kern, proc, space, slot int, effect core.Effect) {
	t.Helper()
	stepsBy(t, k, proc, 0, space, lib.Did{Commit: true, Slot: slot, Effect: effect})
}

// to has a processor take steps up to where it is in a mode.
func to(t *testing.T, k *kern.Kern, proc, mode int) {
	t.Helper()
	for range 1000 {
		space, _ := k.Owner(proc)
		if v, _ := k.Lib(space).Look(proc); v.Mode == mode {
			return
		}
		if _, _, e := k.Step(proc, 0); e != api.OK {
			t.Fatalf("Step(%d, 0) is %d", proc, e)
		}
	}
	t.Fatalf("%d does not come to be in %d", proc, mode)
}

// stopsAll has the only threads of spaces run up to where they block, and their processor go again, so that nothing waits there.
func stopsAll(t *testing.T, k *kern.Kern, spaces ...int) {
	t.Helper()
	for _, space := range spaces {
		gives(t, k, space, 0)
		for len(k.Lib(space).Space().Ready()) > 0 {
			if _, _, e := k.Step(0, 0); e != api.OK {
				t.Fatalf("Step(0, 0) is %d", e)
			}
		}
		isTold(t, k, 0, space, blocked(0))
		takes(t, k, 0)
		waits(t, k, space)
	}
}

// in asks what a processor of a space is in.
func in(t *testing.T, k *kern.Kern, proc, space, mode, thread int, list ...api.Event) {
	t.Helper()
	owns(t, k, proc, space)
	v, _ := k.Lib(space).Look(proc)
	if v.Mode != mode || v.Thread != thread || !slices.Equal(v.Events, list) {
		t.Fatalf("%d is in %+v, not in %d, %d, %v", proc, v, mode, thread, list)
	}
}

// isTold asks that a processor of a space is in a new vessel with events.
func isTold(t *testing.T, k *kern.Kern, proc, space int, list ...api.Event) {
	t.Helper()
	in(t, k, proc, space, api.Upcall, -1, list...)
}

// waits asks which events wait in a space.
func waits(t *testing.T, k *kern.Kern, space int, wanted ...api.Event) {
	t.Helper()
	if list := k.Lib(space).Waiting(); !slices.Equal(list, wanted) {
		t.Fatalf("in %d there wait %v, not %v", space, list, wanted)
	}
}

// may asks who may run in a space.
func may(t *testing.T, k *kern.Kern, space int, wanted ...int) {
	t.Helper()
	if list := k.Lib(space).Space().Ready(); !slices.Equal(list, wanted) {
		t.Fatalf("in %d there may run %d, not %d", space, list, wanted)
	}
}

// word asks for a register of a thread.
func word(t *testing.T, k *kern.Kern, space, slot, register int, wanted uint64) {
	t.Helper()
	if thread, _ := k.Lib(space).Space().Look(slot); thread.Regs[register] != wanted {
		t.Fatalf("register %d of %d in %d is %d, not %d", register, slot, space, thread.Regs[register], wanted)
	}
}

// thread has a thread of a space do instructions ahead of its library's.
func thread(t *testing.T, k *kern.Kern, space, slot, count int) {
	t.Helper()
	for range count {
		if _, e := k.Lib(space).Space().Run(slot, 0); e != api.OK {
			t.Fatalf("Run(%d) is %d", slot, e)
		}
	}
}

// The effects that are asked for often.
var (
	nothing = core.Effect{}
	stops   = core.Effect{Stopped: true}
	ended   = core.Effect{Ended: true}
	yields  = core.Effect{Yielded: true}
)

// wakes is an effect by which some go on.
func wakes(who ...int) core.Effect { return core.Effect{Woken: who} }

// ends is numbers at their ends, and such as are others when half of them is lost.
func ends() []int {
	return []int{0, 1, -1, math.MinInt, math.MinInt + 1, math.MaxInt, math.MaxInt - 1, 1 << 32, 1<<32 + 1, -1 << 32, 1 << 8, 1 << 16}
}

// none is numbers that are none of so many, from 0 on.
func none(count int) []int {
	list := []int{-1, -2, -8, -64, math.MinInt, math.MinInt + 1, math.MaxInt, math.MaxInt - 1, count, count + 1, 64, 65, 128, 1 << 20}
	for low := range count + 1 {
		list = append(list, low+1<<8, low+1<<16, low+1<<32, low-1<<32, low+math.MinInt)
	}
	return list
}
