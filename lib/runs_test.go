package lib_test

import (
	"math"
	"slices"
	"testing"

	"drawknife/api"
	"drawknife/core"
	"drawknife/lib"
	"drawknife/vessel"
)

// desk is what a processor is in, in the twin.
type desk struct {
	mode, thread int
	told         []api.Event
}

// twin is a library told anew from the chapter, on a space of its own, with numbers for modes and kinds, lists for rows, and a desk for each processor that it has.
type twin struct {
	s     *core.Space
	desks []*desk
	rows  [][]int
	wait  []api.Event
	busy  bool
}

// newTwin is one of a space in which only thread 0 may run.
func newTwin(s *core.Space, procs int) *twin {
	x := &twin{s: s, desks: make([]*desk, procs), rows: make([][]int, procs)}
	for _, slot := range s.Ready() {
		x.wait = append(x.wait, api.Event{Kind: 3, Thread: slot})
	}
	return x
}

// mayRunBy: who may run by an event; below 0: nobody.
func mayRunBy(e api.Event) int {
	if (e.Kind == 3 || e.Kind == 4) && e.Mode <= 0 && e.Thread >= 0 {
		return e.Thread
	}
	return -1
}

// left is what is left of a desk.
func (d *desk) left() []api.Event {
	var list []api.Event
	switch {
	case d.mode == 2 || d.mode == 4 || d.mode == 7 && d.thread < 0:
		list = append(list, api.Event{Kind: 4, Thread: -1, Mode: d.mode})
	case d.mode == 7:
		list = append(list, api.Event{Kind: 4, Thread: d.thread, Mode: 7})
	case (d.mode == 5 || d.mode == 6) && d.thread >= 0:
		list = append(list, api.Event{Kind: 4, Thread: d.thread})
	}
	for _, e := range d.told {
		if e.Mode > 0 || mayRunBy(e) >= 0 {
			list = append(list, e)
		}
	}
	return list
}

// fresh is a desk that was told something.
func fresh(list ...api.Event) *desk { return &desk{mode: 1, thread: -1, told: slices.Clone(list)} }

// bare is a desk in a mode.
func bare(mode, thread int) *desk { return &desk{mode: mode, thread: thread} }

func (x *twin) has(proc int) bool { return proc >= 0 && proc < len(x.desks) && x.desks[proc] != nil }

func (x *twin) grant(proc int) bool {
	if proc < 0 || proc >= len(x.desks) || x.desks[proc] != nil {
		return false
	}
	x.desks[proc] = fresh(append([]api.Event{{Kind: 1, Thread: -1}}, x.wait...)...)
	x.wait = nil
	return true
}

func (x *twin) revoke(proc int) bool {
	if !x.has(proc) {
		return false
	}
	d := x.desks[proc]
	x.desks[proc] = nil
	x.tell(d.left())
	return true
}

func (x *twin) preempt(proc int) bool {
	if !x.has(proc) {
		return false
	}
	x.desks[proc] = fresh(x.desks[proc].left()...)
	return true
}

func (x *twin) tell(list []api.Event) {
	if len(list) == 0 {
		return
	}
	for proc, d := range x.desks {
		if d != nil {
			x.desks[proc] = fresh(append(d.left(), list...)...)
			return
		}
	}
	x.wait = append(x.wait, list...)
}

// goesOn tells of threads that go on.
func (x *twin) goesOn(who []int) {
	var list []api.Event
	for _, slot := range who {
		list = append(list, api.Event{Kind: 3, Thread: slot})
	}
	x.tell(list)
}

// comes puts threads into a row, but who is in one.
func (x *twin) comes(proc int, who ...int) {
	for _, thread := range who {
		in := false
		for _, r := range x.rows {
			in = in || slices.Contains(r, thread)
		}
		if !in {
			x.rows[proc] = append(x.rows[proc], thread)
		}
	}
}

// next takes the thread that a processor is to run.
func (x *twin) next(proc int) (int, bool) {
	if r := x.rows[proc]; len(r) > 0 {
		x.rows[proc] = r[1:]
		return r[0], true
	}
	for k, r := range x.rows {
		if n := len(r); n > 0 {
			x.rows[k] = r[:n-1]
			return r[n-1], true
		}
	}
	return 0, false
}

// does has a thread do its next instruction.
func (x *twin) does(slot, choice int) (lib.Did, core.Effect) {
	e, _ := x.s.Run(slot, choice)
	return lib.Did{Commit: true, Slot: slot, Effect: e}, e
}

func (x *twin) step(proc, choice int) (lib.Did, api.Errno) {
	if !x.has(proc) {
		return lib.Did{}, 11
	}
	d := x.desks[proc]
	switch {
	case d.mode == 1:
		for k, e := range d.told {
			if e.Mode > 0 {
				d.told = append(slices.Clone(d.told[:k]), d.told[k+1:]...)
				return x.finish(proc, e, choice), 0
			}
		}
		fallthrough
	case d.mode == 3 || d.mode == 6:
		if !x.busy {
			d.mode++ // Upcall to Handle, Seek to Pick, Enter to Inside
			x.busy = true
		}
	case d.mode == 2 && len(d.told) > 0:
		if thread := mayRunBy(d.told[0]); thread >= 0 {
			x.comes(proc, thread)
		}
		d.told = d.told[1:]
	case d.mode == 2:
		x.desks[proc], x.busy = bare(3, -1), false
	case d.mode == 4:
		x.desks[proc], x.busy = bare(8, -1), false
		if thread, ok := x.next(proc); ok {
			x.desks[proc] = bare(5, thread)
		}
	case d.mode == 5:
		return x.run(proc, choice), 0
	case d.mode == 7:
		return x.leave(proc, choice), 0
	case d.mode == 8 && slices.ContainsFunc(x.rows, func(r []int) bool { return len(r) > 0 }):
		x.desks[proc] = bare(3, -1)
	}
	return lib.Did{}, 0
}

// finish: a section that was cut off.
func (x *twin) finish(proc int, e api.Event, choice int) lib.Did {
	x.busy = false
	if e.Mode != 7 {
		return lib.Did{}
	}
	did, f := x.does(e.Thread, choice)
	x.comes(proc, f.Woken...)
	if !f.Stopped && !f.Ended {
		x.comes(proc, e.Thread)
	}
	return did
}

// run: a thread that runs.
func (x *twin) run(proc, choice int) lib.Did {
	d := x.desks[proc]
	if x.s.Class(d.thread) == 2 {
		d.mode = 6
		return lib.Did{}
	}
	did, f := x.does(d.thread, choice)
	if f.Stopped {
		x.desks[proc] = fresh(api.Event{Kind: 2, Thread: d.thread})
	}
	if f.Ended {
		x.desks[proc] = bare(3, -1)
	}
	x.goesOn(f.Woken)
	return did
}

// leave: a thread that is inside.
func (x *twin) leave(proc, choice int) lib.Did {
	thread := x.desks[proc].thread
	did, f := x.does(thread, choice)
	x.busy = false
	x.comes(proc, f.Woken...)
	x.desks[proc] = bare(5, thread)
	if f.Stopped || f.Ended || f.Yielded {
		x.desks[proc] = bare(3, -1)
	}
	if f.Yielded {
		x.comes(proc, thread)
	}
	return did
}

// both is a library and its twin, whose spaces are of the same program.
type both struct {
	l     *lib.Lib
	x     *twin
	procs int
	acts  []act
}

// act is one of both, by its letter: s step, g grant, r revoke, p preempt, x whichever of the two last may be, t tick, d done, e tell.
type act struct {
	what   byte
	proc   int
	choice int
	told   []api.Event
}

func newBoth(t *testing.T, p api.Program, procs int) *both {
	t.Helper()
	one, e := core.New(p)
	other, _ := core.New(p)
	if e != api.OK {
		t.Fatalf("%v may not be: %d", p, e)
	}
	return &both{l: lib.New(one, procs), x: newTwin(other, procs), procs: procs}
}

// act does it with both, and asks that the same comes of it.
func (b *both) act(t *testing.T, a act) lib.Did {
	t.Helper()
	b.acts = append(b.acts, a)
	same := true
	var did lib.Did
	switch a.what {
	case 's':
		var e api.Errno
		did, e = b.l.Step(a.proc, a.choice)
		wanted, f := b.x.step(a.proc, a.choice)
		same = sameDid(did, wanted) && e == f
	case 'g':
		same = b.l.Grant(a.proc) == b.x.grant(a.proc)
	case 'r':
		same = b.l.Revoke(a.proc) == b.x.revoke(a.proc)
	case 'x':
		if b.x.has(a.proc) {
			same = b.l.Revoke(a.proc) && b.x.revoke(a.proc)
		} else {
			same = b.l.Grant(a.proc) && b.x.grant(a.proc)
		}
	case 'p':
		same = b.l.Preempt(a.proc) == b.x.preempt(a.proc)
	case 't':
		tell(t, b.l, wokenBy(b.l.Space().Tick())...)
		b.x.goesOn(b.x.s.Tick().Woken)
	case 'd':
		e, _ := b.l.Space().Done(a.choice)
		tell(t, b.l, wokenBy(e)...)
		f, _ := b.x.s.Done(a.choice)
		b.x.goesOn(f.Woken)
	case 'e':
		tell(t, b.l, a.told...)
		b.x.tell(a.told)
	}
	if !same || !b.same() {
		t.Fatalf("%+v come to\n%+v, not to\n%+v", b.acts, b.l, b.x)
	}
	return did
}

// wokenBy is what a space is told of who goes on.
func wokenBy(e core.Effect) []api.Event {
	var list []api.Event
	for _, slot := range e.Woken {
		list = append(list, unblocked(slot))
	}
	return list
}

// same: do both show the same?
func (b *both) same() bool {
	var procs []int
	for proc := range b.procs {
		v, ok := b.l.Look(proc)
		wanted := &desk{}
		if b.x.has(proc) {
			procs = append(procs, proc)
			wanted = b.x.desks[proc]
		}
		if ok != b.x.has(proc) || v.Mode != wanted.mode || v.Thread != wanted.thread || !slices.Equal(v.Events, wanted.told) {
			return false
		}
		if !slices.Equal(b.l.Rows().Row(proc), b.x.rows[proc]) {
			return false
		}
	}
	return slices.Equal(b.l.Procs(), procs) && slices.Equal(b.l.Waiting(), b.x.wait) && b.l.Locked() == b.x.busy
}

// sameSpaces: are the spaces of both the same?
func (b *both) sameSpaces() bool {
	s := b.l.Space()
	return slices.Equal(s.Records(), b.x.s.Records()) && slices.Equal(s.Memory(), b.x.s.Memory()) && slices.Equal(s.Ready(), b.x.s.Ready())
}

// found is how often each thread is anywhere, and how many sections there are.
func (b *both) found() (places map[int]int, sections int) {
	places = map[int]int{}
	look := func(list []api.Event) {
		for _, e := range list {
			if e.Mode > 0 {
				sections++
			}
			if (e.Mode == api.Inside || e.Mode <= 0) && (e.Kind == api.Unblocked || e.Kind == api.Preempted) && e.Thread >= 0 {
				places[e.Thread]++
			}
		}
	}
	for _, proc := range b.l.Procs() {
		v, _ := b.l.Look(proc)
		if thread, runs := vessel.Runs(v); runs {
			places[thread]++
		}
		if vessel.Holds(v) {
			sections++
		}
		look(v.Events)
		for _, thread := range b.l.Rows().Row(proc) {
			places[thread]++
		}
	}
	for proc := range b.procs {
		if !b.x.has(proc) {
			for _, thread := range b.l.Rows().Row(proc) {
				places[thread]++
			}
		}
	}
	look(b.l.Waiting())
	return places, sections
}

// right asks that each thread that may run is in one place, others in none, and that it is locked by just one section.
func (b *both) right(t *testing.T) {
	t.Helper()
	places, sections := b.found()
	ready := b.l.Space().Ready()
	ok := len(places) == len(ready)
	for _, slot := range ready {
		ok = ok && places[slot] == 1
	}
	if locks := map[bool]int{true: 1}[b.l.Locked()]; !ok || sections != locks {
		t.Fatalf("%+v come to places %v of %v, %d sections, %d locks", b.acts, places, ready, sections, locks)
	}
}

// shortPrograms is programs in which threads meet soon.
func shortPrograms() []api.Program {
	return []api.Program{
		program(does(spawn(1), yield(), pipe(api.Get, 2, 0), on(api.Jump, 1)), does(pipe(api.Put, 0, 0), one(api.Self, 3), on(api.Jump, 0))),
		program(does(spawn(1), on(api.Lock, 0), one(api.Print, 2), on(api.Unlock, 0), on(api.Jump, 1)), does(on(api.Lock, 0), on(api.Unlock, 0), on(api.Jump, 0))),
		program(does(spawn(1), two(api.Join, 2, 1), on(api.Jump, 0)), does(set(2, 1), one(api.Sleep, 2), two(api.Load, 3, 2), set(2, 9), two(api.Load, 3, 2))),
		program(does(on(api.Lock, 0), spawn(1), api.Instr{Op: api.Wait, N: 0, C: 0}, on(api.Unlock, 0), on(api.Jump, 0)), does(on(api.Lock, 0), on(api.Broadcast, 0), on(api.Unlock, 0), one(api.Exit, 1))),
	}
}

// P16.1 and P16.2: all short runs of two processors, from many places on the way, held against the twin, with each thread in its place.
func TestShortRuns(t *testing.T) {
	letters := []act{{what: 's'}, {what: 's', proc: 1, choice: 1}, {what: 'x'}, {what: 'x', proc: 1}, {what: 'p'}, {what: 't'}}
	length := 5
	count := 1
	for range length {
		count *= len(letters)
	}
	for _, p := range shortPrograms() {
		for ahead := 0; ahead < 36; ahead += 4 {
			for number := range count {
				b := newBoth(t, p, 2)
				b.act(t, act{what: 'g', proc: 1})
				for k := range ahead {
					b.act(t, act{what: 's', proc: 1 - k/12%2})
					if k == 11 {
						b.act(t, act{what: 'g'})
					}
				}
				for n := range length {
					b.act(t, letters[number%len(letters)])
					number /= len(letters)
					if n == length-1 {
						b.right(t)
					}
				}
			}
		}
	}
}

// dice is numbers that come in no order, the same ones each time.
type dice uint64

func (d *dice) below(n int) int {
	*d = *d*6364136223846793005 + 1442695040888963407
	return int(uint64(*d) >> 33 % uint64(n))
}

// instr is an instruction of few registers and objects, so that threads meet.
func (d *dice) instr(funcs, length int) api.Instr {
	a, b := 1+d.below(2), 1+d.below(2)
	object := uint64(d.below(2))
	list := []api.Instr{
		set(a, uint64(d.below(3))), two(api.Move, a, b), yield(), yield(), one(api.Self, a), one(api.Print, a), one(api.Sleep, a),
		on(api.Jump, uint64(d.below(length+1))), {Op: api.Zero, A: a, N: uint64(d.below(length + 1))},
		two(api.Load, a, b), two(api.Store, a, b), two(api.Read, a, b), two(api.Write, a, b),
		on(api.Lock, object), on(api.Unlock, object), on(api.Lock, object), on(api.Unlock, object),
		{Op: api.Wait, N: object, C: d.below(2)}, on(api.Signal, object), on(api.Broadcast, object),
		on(api.Down, object), on(api.Up, object), pipe(api.Put, a, object), pipe(api.Get, a, object),
		spawn(uint64(d.below(funcs))), spawn(uint64(d.below(funcs))), two(api.Join, 2, 1), one(api.Detach, 1), one(api.Exit, a),
	}
	return list[d.below(len(list))]
}

// phrase is some instructions: mostly any one, sometimes some that are seldom of use each by itself.
func (d *dice) phrase(funcs, length int) []api.Instr {
	mutex := d.below(2)
	switch d.below(8) {
	case 0:
		return does(on(api.Lock, uint64(mutex)), api.Instr{Op: api.Wait, N: 0, C: mutex}, on(api.Unlock, uint64(mutex)))
	case 1:
		return does(on(api.Broadcast, 0))
	case 2:
		return does(spawn(uint64(d.below(funcs))), two(api.Join, 2, 1))
	}
	return does(d.instr(funcs, length))
}

// together is a program in which some wait for one thing, each with a mutex of their own, so that they go on at once.
func together() api.Program {
	waits := func(mutex int) []api.Instr {
		return does(on(api.Lock, uint64(mutex)), api.Instr{Op: api.Wait, N: 0, C: mutex}, on(api.Unlock, uint64(mutex)), on(api.Jump, 0))
	}
	return program(does(spawn(1), spawn(2), yield(), on(api.Broadcast, 0), on(api.Jump, 2)), waits(0), waits(1))
}

// program is one that may be.
func (d *dice) program() api.Program {
	if d.below(6) == 0 {
		return together()
	}
	funcs := 1 + d.below(3)
	var all [][]api.Instr
	for range funcs {
		length := 3 + d.below(10)
		list := does(spawn(uint64(d.below(funcs))))
		for len(list) < length {
			list = append(list, d.phrase(funcs, length)...)
		}
		if d.below(2) == 0 { // else they end there
			list = append(list, on(api.Jump, uint64(d.below(2))))
		}
		all = append(all, list)
	}
	return program(all...)
}

// choice is one that is often small, sometimes at an end.
func (d *dice) choice() int {
	list := []int{0, 0, 0, 1, 2, 3, -1, -2, math.MaxInt, math.MinInt}
	return list[d.below(len(list))]
}

// act is an act of so many processors, mostly a step.
func (d *dice) act(procs int) act {
	a := act{what: 's', proc: d.below(procs+2) - 1, choice: d.choice()}
	switch k := d.below(120); {
	case k < 3:
		a.what = 'g'
	case k < 5:
		a.what = 'r'
	case k < 6:
		a.what = 'p'
	case k < 8:
		a.what = 't'
	case k < 10:
		a.what = 'd'
	}
	return a
}

// P16.1 and P16.2: long runs of programs that came about by dice, of none to four processors, held against the twin, with each thread in its place.
func TestLongRuns(t *testing.T) {
	d := dice(16)
	seen := counts{}
	for run := range 3000 {
		procs := run % 5
		b := newBoth(t, d.program(), procs)
		for range 500 {
			did := b.act(t, d.act(procs))
			b.right(t)
			seen.add(b.l, did)
		}
		if !b.sameSpaces() {
			t.Fatalf("%+v: the spaces are not the same", b.acts)
		}
		b.goesOn(t)
	}
	seen.ask(t)
}

// counts is how often a processor was in each mode, and how often what came of commits.
type counts struct {
	modes                                                                       [9]int
	commits, stops, ends, yields, wakes, wakesSome, stopsAndWakes, endsAndWakes int
}

// add counts what is behind an act, and what that did.
func (c *counts) add(l *lib.Lib, did lib.Did) {
	for _, proc := range l.Procs() {
		v, _ := l.Look(proc)
		c.modes[v.Mode]++
	}
	e := did.Effect
	woken := len(e.Woken) > 0
	one := func(n *int, is bool) {
		if is {
			*n++
		}
	}
	one(&c.commits, did.Commit)
	one(&c.stops, e.Stopped)
	one(&c.ends, e.Ended)
	one(&c.yields, e.Yielded)
	one(&c.wakes, woken)
	one(&c.wakesSome, len(e.Woken) > 1)
	one(&c.stopsAndWakes, e.Stopped && woken)
	one(&c.endsAndWakes, e.Ended && woken)
}

// ask asks that all came about often.
func (c *counts) ask(t *testing.T) {
	t.Helper()
	few := append([]int{c.commits, c.stops, c.ends, c.yields, c.wakes, c.wakesSome, c.stopsAndWakes, c.endsAndWakes}, c.modes[1:]...)
	if slices.Min(few) < 20 {
		t.Errorf("something came about seldom: %+v", *c)
	}
}

// goesOn asks that a space that has a processor, and a thread that may run, commits soon, if all take their steps in turn.
func (b *both) goesOn(t *testing.T) {
	t.Helper()
	had := b.l.Procs()
	if len(had) == 0 || len(b.l.Space().Ready()) == 0 {
		return
	}
	for range len(had) * (api.MaxThreads + 4) * (4*api.MaxThreads + 2*len(had) + 8) {
		for _, proc := range had {
			if b.act(t, act{what: 's', proc: proc}).Commit {
				return
			}
		}
	}
	t.Fatalf("%+v lead to where nobody commits", b.acts)
}

// event is any one: of threads that there may be or not, any kind, any mode.
func (d *dice) event() api.Event {
	threads := []int{-2, -1, 0, 0, 1, 1, 2, 3, 15, 16, 17, math.MaxInt, math.MinInt}
	modes := []int{0, 0, 0, 0, -1, 1, 2, 4, 5, 6, 7, 7, 7, 8, 9, math.MaxInt, math.MinInt, 7 + 1<<32}
	return api.Event{Kind: d.below(7) - 1, Thread: threads[d.below(len(threads))], Mode: modes[d.below(len(modes))]}
}

// P16.1 and P16.2: long runs in which a space is told anything, also what is not so, held against the twin.
func TestLongRunsOfAnyEvents(t *testing.T) {
	d := dice(17)
	for run := range 3000 {
		procs := run % 5
		b := newBoth(t, d.program(), procs)
		for range 400 {
			a := d.act(procs)
			if d.below(12) == 0 {
				a.what = 'e'
				for range d.below(4) {
					a.told = append(a.told, d.event())
				}
			}
			b.act(t, a)
		}
		if !b.sameSpaces() {
			t.Fatalf("%+v: the spaces are not the same", b.acts)
		}
	}
}
