package place_test

import (
	"math"
	"slices"
	"testing"

	"drawknife/api"
	"drawknife/kern"
	"drawknife/lib"
	"drawknife/place"
	"drawknife/sys"
)

// set, reg, two, on, spawn, pipe and yield are instructions by what they have.
func set(a int, n uint64) api.Instr      { return api.Instr{Op: api.Set, A: a, N: n} }
func reg(op, a int) api.Instr            { return api.Instr{Op: op, A: a} }
func two(op, a, b int) api.Instr         { return api.Instr{Op: op, A: a, B: b} }
func on(op int, n uint64) api.Instr      { return api.Instr{Op: op, N: n} }
func spawn(n uint64) api.Instr           { return api.Instr{Op: api.Spawn, A: 1, N: n} }
func pipe(op, a int, n uint64) api.Instr { return api.Instr{Op: op, A: a, N: n} }
func yield() api.Instr                   { return api.Instr{Op: api.Yield} }

// does is a function; program is functions, with some of each object.
func does(list ...api.Instr) []api.Instr { return list }
func program(funcs ...[]api.Instr) api.Program {
	return api.Program{Funcs: funcs, Words: 2, Mutexes: 2, Conds: 2, Sems: []int{0, 1}, Pipes: []int{1, 1}, Blocks: 2}
}

// crew is a program that so many threads of come to run for ever.
func crew(count int) api.Program {
	main := slices.Repeat(does(spawn(1)), count-1)
	return program(append(main, on(api.Jump, uint64(len(main)))), does(on(api.Jump, 0)))
}

// loops is so many programs of one thread each that goes on for ever.
func loops(count int) []api.Program { return slices.Repeat([]api.Program{crew(1)}, count) }

// begin is a kernel of programs that may be; nobody has any processor.
func begin(t *testing.T, procs int, list ...api.Program) *kern.Kern {
	t.Helper()
	k, e := kern.New(procs, list)
	if k == nil || e != api.OK {
		t.Fatalf("New(%d, %v) is %v, %d", procs, list, k, e)
	}
	return k
}

// given is one of a program whose space is given processors.
func given(t *testing.T, procs int, p api.Program, had ...int) (*kern.Kern, *lib.Lib) {
	t.Helper()
	k := begin(t, procs, p)
	gives(t, k, 0, had...)
	return k, k.Lib(0)
}

// gives has a space get processors; takes has them free again.
func gives(t *testing.T, k *kern.Kern, space int, procs ...int) {
	t.Helper()
	for _, p := range procs {
		if e := k.Give(p, space); e != api.OK {
			t.Fatalf("Give(%d, %d) is %d", p, space, e)
		}
	}
}
func takes(t *testing.T, k *kern.Kern, procs ...int) {
	t.Helper()
	for _, p := range procs {
		if e := k.Take(p); e != api.OK {
			t.Fatalf("Take(%d) is %d", p, e)
		}
	}
}

// preempts has a processor be taken away from what it does.
func preempts(t *testing.T, k *kern.Kern, p int) {
	t.Helper()
	if e := k.Preempt(p); e != api.OK {
		t.Fatalf("Preempt(%d) is %d", p, e)
	}
}

// grants and revokes have a processor come and go behind the kernel's back.
func grants(t *testing.T, l *lib.Lib, p int) {
	t.Helper()
	if !l.Grant(p) {
		t.Fatalf("Grant(%d) is false", p)
	}
}
func revokes(t *testing.T, l *lib.Lib, p int) {
	t.Helper()
	if !l.Revoke(p) {
		t.Fatalf("Revoke(%d) is false", p)
	}
}

// adds has threads come into a row, picks the next one go from it, behind the library's back.
func adds(t *testing.T, l *lib.Lib, row int, threads ...int) {
	t.Helper()
	for _, thread := range threads {
		if !l.Rows().Add(row, thread) {
			t.Fatalf("%d does not come into row %d", thread, row)
		}
	}
}
func picks(t *testing.T, l *lib.Lib, row, wanted int) {
	t.Helper()
	if thread, there := l.Rows().Pick(row); thread != wanted || !there {
		t.Fatalf("of row %d goes %d, %t, not %d", row, thread, there, wanted)
	}
}

// steps has a processor take steps.
func steps(t *testing.T, k *kern.Kern, p, count int) {
	t.Helper()
	for range count {
		if _, _, e := k.Step(p, 0); e != api.OK {
			t.Fatalf("Step(%d) is %d", p, e)
		}
	}
}

// mode is what a processor is in.
func mode(k *kern.Kern, p int) int {
	space, _ := k.Owner(p)
	v, _ := k.Lib(space).Look(p)
	return v.Mode
}

// to has a processor take steps up to where it is in a mode.
func to(t *testing.T, k *kern.Kern, p, wanted int) {
	t.Helper()
	for range 1000 {
		if mode(k, p) == wanted {
			return
		}
		steps(t, k, p, 1)
	}
	t.Fatalf("%d does not come to be in %d", p, wanted)
}

// commits has a processor take steps up to where so many instructions more were done.
func commits(t *testing.T, k *kern.Kern, p, count int) {
	t.Helper()
	for done := 0; done < count; {
		_, did, e := k.Step(p, 0)
		if e != api.OK {
			t.Fatalf("Step(%d) is %d", p, e)
		}
		if did.Commit {
			done++
		}
	}
}

// The places.
func onProc(p int) api.Place  { return api.Place{Kind: api.OnProc, At: p} }
func inDeque(p int) api.Place { return api.Place{Kind: api.InDeque, At: p} }
func inEvent(p int) api.Place { return api.Place{Kind: api.InEvent, At: p} }
func inWaking() api.Place     { return api.Place{Kind: api.InWaking, At: -1} }
func event(kind, thread, mode int) api.Event {
	return api.Event{Kind: kind, Thread: thread, Mode: mode}
}

// The events that are told often.
func unblocked(thread int) api.Event { return event(api.Unblocked, thread, 0) }
func preempted(thread int) api.Event { return event(api.Preempted, thread, 0) }
func cut(mode, thread int) api.Event { return event(api.Preempted, thread, mode) }

// is asks for all places of a thread, twice, since what was answered first is written over, its spare room too.
func is(t *testing.T, k *kern.Kern, space, slot int, wanted ...api.Place) {
	t.Helper()
	for range 2 {
		list := place.Of(k, space, slot)
		if !slices.Equal(list, wanted) {
			t.Fatalf("in %d thread %d is in %+v, not in %+v", space, slot, list, wanted)
		}
		list = list[:cap(list)]
		for n := range list {
			list[n] = api.Place{Kind: -7, At: -7}
		}
	}
}

// right asks that all is right; wrong, that it is not.
func right(t *testing.T, k *kern.Kern) {
	t.Helper()
	if !place.Right(k) || !place.Right(k) {
		t.Fatalf("it is not right: %d", shows(k))
	}
}
func wrong(t *testing.T, k *kern.Kern) {
	t.Helper()
	if place.Right(k) || place.Right(k) {
		t.Fatalf("it is right: %d", shows(k))
	}
}

// shows is all that a kernel shows.
func shows(k *kern.Kern) []int {
	list := []int{k.Procs(), k.Spaces()}
	for p := range k.Procs() {
		space, had := k.Owner(p)
		if !had {
			space = -1
		}
		list = append(list, space)
	}
	for space := range k.Spaces() {
		list = append(list, ofLib(k.Lib(space), k.Procs())...)
	}
	return list
}

// ofLib is what a library shows.
func ofLib(l *lib.Lib, procs int) []int {
	list := append([]int{-3}, l.Space().Ready()...)
	if l.Locked() {
		list = append(list, -4)
	}
	for p := range procs {
		v, _ := l.Look(p)
		list = append(append(list, -5, v.Mode, v.Thread), ofEvents(v.Events)...)
		list = append(append(list, -6), l.Rows().Row(p)...)
	}
	return append(list, ofEvents(l.Waiting())...)
}

func ofEvents(events []api.Event) []int {
	list := []int{-7}
	for _, e := range events {
		list = append(list, e.Kind, e.Thread, e.Mode)
	}
	return list
}

// system is a whole one of programs that may be.
func system(t *testing.T, procs int, list []api.Program) *sys.Sys {
	t.Helper()
	s, e := sys.New(procs, list)
	if s == nil || e != api.OK {
		t.Fatalf("New(%d, %v) is %v, %d", procs, list, s, e)
	}
	return s
}

// ends is numbers at their ends, and such as are others when half of them is lost.
func ends() []int {
	return []int{-1, math.MinInt, math.MinInt + 1, math.MaxInt, math.MaxInt - 1, 1 << 32, 1<<32 + 1, -1 << 32, 1 << 8, 1 << 16}
}
