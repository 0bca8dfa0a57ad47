package alloc_test

import (
	"math"
	"slices"
	"testing"

	"drawknife/alloc"
	"drawknife/api"
	"drawknife/kern"
	"drawknife/lib"
)

// set, one, two, on, spawn, pipe and yield are instructions by what they have.
func set(a int, n uint64) api.Instr      { return api.Instr{Op: api.Set, A: a, N: n} }
func one(op, a int) api.Instr            { return api.Instr{Op: op, A: a} }
func two(op, a, b int) api.Instr         { return api.Instr{Op: op, A: a, B: b} }
func on(op int, n uint64) api.Instr      { return api.Instr{Op: op, N: n} }
func spawn(n uint64) api.Instr           { return api.Instr{Op: api.Spawn, A: 1, N: n} }
func pipe(op, a int, n uint64) api.Instr { return api.Instr{Op: op, A: a, N: n} }
func yield() api.Instr                   { return api.Instr{Op: api.Yield} }

// does is a function; program is functions, with some of each object.
func does(list ...api.Instr) []api.Instr { return list }
func program(funcs ...[]api.Instr) api.Program {
	return api.Program{Funcs: funcs, Words: 2, Mutexes: 2, Conds: 2, Sems: []int{0, 1}, Pipes: []int{1, 1}, Blocks: 2}
}

// crew is a program that so many threads of come to run for ever, of 0: none.
func crew(count int) api.Program {
	if count == 0 {
		return program(does(one(api.Exit, 1)))
	}
	main := slices.Repeat(does(spawn(1)), count-1)
	return program(append(main, on(api.Jump, uint64(len(main)))), does(on(api.Jump, 0)))
}

// begin is a kernel of programs that may be.
func begin(t *testing.T, procs int, list ...api.Program) *kern.Kern {
	t.Helper()
	k, e := kern.New(procs, list)
	if k == nil || e != api.OK {
		t.Fatalf("New(%d, %v) is %v, %d", procs, list, k, e)
	}
	return k
}

// wanting is a kernel with so many processors, of which nobody has one, and of whose spaces so many threads may run.
func wanting(t *testing.T, procs int, demand ...int) *kern.Kern {
	t.Helper()
	var list []api.Program
	for _, n := range demand {
		list = append(list, crew(n))
	}
	k := begin(t, procs, list...)
	for space, n := range demand {
		for range max(n-1, 1-n) { // begins all others, or ends
			runs(t, k, space, 0)
		}
	}
	demands(t, k, demand...)
	return k
}

// runs has a thread of a space do an instruction ahead of its library's.
func runs(t *testing.T, k *kern.Kern, space, slot int) {
	t.Helper()
	if _, e := k.Lib(space).Space().Run(slot, 0); e != api.OK {
		t.Fatalf("Run(%d) is %d", slot, e)
	}
}

// demands asks how many threads of each space may run.
func demands(t *testing.T, k *kern.Kern, wanted ...int) {
	t.Helper()
	if list := k.Demand(); !slices.Equal(list, wanted) {
		t.Fatalf("what they want is %d, not %d", list, wanted)
	}
}

// alike is so many times one number.
func alike(count, n int) []int { return slices.Repeat([]int{n}, count) }

// upTo is the numbers from one to just below another.
func upTo(low, high int) []int {
	var list []int
	for n := low; n < high; n++ {
		list = append(list, n)
	}
	return list
}

// gives has a space get processors.
func gives(t *testing.T, k *kern.Kern, space int, procs ...int) {
	t.Helper()
	for _, proc := range procs {
		if e := k.Give(proc, space); e != api.OK {
			t.Fatalf("Give(%d, %d) is %d", proc, space, e)
		}
	}
}

// overwrite writes over a list, its spare room included.
func overwrite(l []int) {
	for k := range l[:cap(l)] {
		l[:cap(l)][k] = 7004
	}
}

// roomy is a list with spare room, in which there is something.
func roomy(list []int) []int {
	room := append(slices.Clone(list), 1, 2, 3)
	return room[:len(list):len(room)]
}

// untouched asks that a list of roomy's is what it was.
func untouched(t *testing.T, list, was []int) {
	t.Helper()
	if room := list[:cap(list)]; !slices.Equal(room, append(slices.Clone(was), 1, 2, 3)) {
		t.Fatalf("of %d there came to be %d", was, room)
	}
}

// targets asks for targets, twice, since what was answered first is written over; nothing in the kernel is another then.
func targets(t *testing.T, k *kern.Kern, prio []int, turn int, wanted ...int) {
	t.Helper()
	room := roomy(prio)
	ahead := shows(k)
	for range 2 {
		list := alloc.Targets(k, room, turn)
		if !slices.Equal(list, wanted) {
			t.Fatalf("Targets of %d, %d by %d, %d is %d, not %d", k.Procs(), k.Demand(), prio, turn, list, wanted)
		}
		overwrite(list)
	}
	untouched(t, room, prio)
	still(t, k, ahead)
}

// shares asks how many processors are taken and given; thereafter there are none to be.
func shares(t *testing.T, k *kern.Kern, prio []int, turn, wanted int) {
	t.Helper()
	room := roomy(prio)
	if n := alloc.Share(k, room, turn); n != wanted {
		t.Fatalf("Share of %d, %d by %d, %d is %d, not %d", k.Procs(), k.Demand(), prio, turn, n, wanted)
	}
	untouched(t, room, prio)
	ahead := shows(k)
	if n := alloc.Share(k, prio, turn); n != 0 {
		t.Fatalf("Share of %d, %d by %d, %d is %d once more", k.Procs(), k.Demand(), prio, turn, n)
	}
	still(t, k, ahead)
}

// fair asks whether each space has its target; nothing in the kernel is another then.
func fair(t *testing.T, k *kern.Kern, prio []int, turn int, wanted bool) {
	t.Helper()
	room := roomy(prio)
	ahead := shows(k)
	for range 2 {
		if alloc.Fair(k, room, turn) != wanted {
			t.Fatalf("Fair of %d, %d by %d, %d is not %t", k.Procs(), k.Demand(), prio, turn, wanted)
		}
	}
	untouched(t, room, prio)
	still(t, k, ahead)
}

// mayNot asks that by such numbers there are no targets, so that nothing is fair and nothing is done.
func mayNot(t *testing.T, k *kern.Kern, prio []int, turn int) {
	t.Helper()
	targets(t, k, prio, turn)
	fair(t, k, prio, turn, false)
	ahead := shows(k)
	room := roomy(prio)
	if n := alloc.Share(k, room, turn); n != 0 {
		t.Fatalf("Share of %d, %d by %d, %d is %d", k.Procs(), k.Demand(), prio, turn, n)
	}
	untouched(t, room, prio)
	still(t, k, ahead)
}

// has asks which processors a space has, by the kernel and by its library.
func has(t *testing.T, k *kern.Kern, space int, wanted ...int) {
	t.Helper()
	var list []int
	for proc := range k.Procs() {
		if owner, had := k.Owner(proc); had && owner == space {
			list = append(list, proc)
		}
	}
	if !slices.Equal(list, wanted) || !slices.Equal(k.Lib(space).Procs(), wanted) {
		t.Fatalf("space %d has %d, by its library %d, not %d", space, list, k.Lib(space).Procs(), wanted)
	}
}

// free asks which are nobody's.
func free(t *testing.T, k *kern.Kern, wanted ...int) {
	t.Helper()
	if list := k.Free(); !slices.Equal(list, wanted) {
		t.Fatalf("free are %d, not %d", list, wanted)
	}
}

// The events that are asked for often.
var added = api.Event{Kind: api.Added, Thread: -1}

func unblocked(thread int) api.Event { return api.Event{Kind: api.Unblocked, Thread: thread} }
func preempted(thread int) api.Event { return api.Event{Kind: api.Preempted, Thread: thread} }

// isTold asks that a processor of a space is in a new vessel with events.
func isTold(t *testing.T, k *kern.Kern, proc, space int, list ...api.Event) {
	t.Helper()
	v, had := k.Lib(space).Look(proc)
	if !had || v.Mode != api.Upcall || v.Thread != -1 || !slices.Equal(v.Events, list) {
		t.Fatalf("%d is in %+v, not told %v", proc, v, list)
	}
}

// isRunning asks that a processor of a space runs a thread.
func isRunning(t *testing.T, k *kern.Kern, proc, space, thread int) {
	t.Helper()
	if v, _ := k.Lib(space).Look(proc); v.Mode != api.Running || v.Thread != thread {
		t.Fatalf("%d is in %+v, and runs not %d", proc, v, thread)
	}
}

// waits asks which events wait in a space.
func waits(t *testing.T, k *kern.Kern, space int, wanted ...api.Event) {
	t.Helper()
	if list := k.Lib(space).Waiting(); !slices.Equal(list, wanted) {
		t.Fatalf("in %d there wait %v, not %v", space, list, wanted)
	}
}

// allRun has all processors that a space has run a thread each, which begins all others of a crew on the way.
func allRun(t *testing.T, k *kern.Kern) {
	t.Helper()
	for range 4000 {
		for proc := range k.Procs() {
			if _, _, e := k.Step(proc, 0); e != api.OK && e != api.ErrIdle {
				t.Fatalf("Step(%d, 0) is %d", proc, e)
			}
		}
	}
	for proc := range k.Procs() {
		owner, had := k.Owner(proc)
		if v, _ := k.Lib(max(owner, 0)).Look(proc); had && v.Mode != api.Running {
			t.Fatalf("%d is in %+v", proc, v)
		}
	}
}

// runner is the thread that a processor of a space runs.
func runner(k *kern.Kern, proc, space int) int {
	v, _ := k.Lib(space).Look(proc)
	return v.Thread
}

// shown is what a kernel shows, in numbers.
type shown []int

// shows is all that a kernel shows of its processors and libraries.
func shows(k *kern.Kern) shown {
	list := shown{k.Procs(), k.Spaces()}
	for proc := range k.Procs() {
		owner, had := k.Owner(proc)
		if !had {
			owner = -1
		}
		list = append(list, owner)
	}
	for space := range k.Spaces() {
		list = append(list, ofLib(k.Lib(space), k.Procs())...)
	}
	return list
}

// ofLib is what a library shows.
func ofLib(l *lib.Lib, procs int) []int {
	list := append([]int{-3}, l.Space().Ready()...)
	if l.Locked() {
		list = append(list, -4)
	}
	for proc := range procs {
		v, _ := l.Look(proc)
		list = append(list, -5, v.Mode, v.Thread)
		list = append(list, ofEvents(v.Events)...)
		list = append(list, -6)
		list = append(list, l.Rows().Row(proc)...)
	}
	return append(list, ofEvents(l.Waiting())...)
}

func ofEvents(events []api.Event) []int {
	list := []int{-7}
	for _, e := range events {
		list = append(list, e.Kind, e.Thread, e.Mode)
	}
	return list
}

// still asks that a kernel shows what it did.
func still(t *testing.T, k *kern.Kern, ahead shown) {
	t.Helper()
	if now := shows(k); !slices.Equal(now, ahead) {
		t.Fatalf("there came to be %d, not %d", now, ahead)
	}
}

// ends is numbers at their ends, and such as are others when half of them is lost.
func ends() []int {
	return []int{0, 1, -1, math.MinInt, math.MinInt + 1, math.MaxInt, math.MaxInt - 1, 1 << 32, 1<<32 + 1, -1 << 32, 1 << 8, 1 << 16}
}

// notPrio is numbers that are no priorities.
func notPrio() []int {
	list := []int{-1, -2, -8, 8, 9, 16, 64, math.MinInt, math.MaxInt, math.MinInt + 7}
	for low := range 8 {
		list = append(list, low+1<<8, low+1<<16, low+1<<32, low-1<<32, low+math.MinInt)
	}
	return list
}
