package kern_test

import (
	"math"
	"slices"
	"testing"

	"drawknife/api"
	"drawknife/core"
	"drawknife/kern"
	"drawknife/lib"
	"drawknife/vessel"
)

// twin is a kernel told anew from the chapter, on libraries of its own: whose a processor is lies in a map.
type twin struct {
	procs int
	owner map[int]int
	libs  []*lib.Lib
}

func newTwin(t *testing.T, procs int, list []api.Program) *twin {
	t.Helper()
	x := &twin{procs: procs, owner: map[int]int{}}
	for _, p := range list {
		s, e := core.New(p)
		if e != api.OK {
			t.Fatalf("%v may not be: %d", p, e)
		}
		x.libs = append(x.libs, lib.New(s, procs))
	}
	return x
}

// whose is that of a processor; 1: there is none such; 11: nobody's.
func (x *twin) whose(proc int) (int, api.Errno) {
	space, had := x.owner[proc]
	switch {
	case proc < 0 || proc >= x.procs:
		return 0, 1
	case !had:
		return 0, 11
	}
	return space, 0
}

func (x *twin) give(proc, space int) api.Errno {
	_, e := x.whose(proc)
	switch {
	case e == 1 || space < 0 || space >= len(x.libs):
		return 1
	case e == 0:
		return 4
	}
	x.owner[proc] = space
	x.libs[space].Grant(proc)
	return 0
}

func (x *twin) take(proc int) api.Errno {
	space, e := x.whose(proc)
	if e == 0 {
		delete(x.owner, proc)
		x.libs[space].Revoke(proc)
	}
	return e
}

func (x *twin) preempt(proc int) api.Errno {
	space, e := x.whose(proc)
	if e == 0 {
		x.libs[space].Preempt(proc)
	}
	return e
}

func (x *twin) step(proc, choice int) (int, lib.Did, api.Errno) {
	space, e := x.whose(proc)
	if e != 0 {
		return 0, lib.Did{}, e
	}
	did, e := x.libs[space].Step(proc, choice)
	return space, did, e
}

// goesOn tells a space of threads that go on, each by itself.
func (x *twin) goesOn(space int, who []int) {
	for _, slot := range who {
		x.libs[space].Tell([]api.Event{{Kind: 3, Thread: slot}})
	}
}

func (x *twin) done(space, n int) api.Errno {
	if space < 0 || space >= len(x.libs) {
		return 1
	}
	effect, e := x.libs[space].Space().Done(n)
	x.goesOn(space, effect.Woken)
	return e
}

func (x *twin) tick() {
	for space, l := range x.libs {
		x.goesOn(space, l.Space().Tick().Woken)
	}
}

// act is one of both, by its letter: s step, g give, r take, x whichever of the two last may be, p preempt, t tick, d done.
type act struct {
	what                byte
	proc, space, choice int
}

// both is a kernel and its twin.
type both struct {
	k    *kern.Kern
	x    *twin
	acts []act
}

func newBoth(t *testing.T, procs int, list []api.Program) *both {
	t.Helper()
	return &both{k: begin(t, procs, list...), x: newTwin(t, procs, list)}
}

// act does it with both, and asks that the same comes of it.
func (b *both) act(t *testing.T, a act) (lib.Did, api.Errno) {
	t.Helper()
	b.acts = append(b.acts, a)
	var did, wanted lib.Did
	var e, f api.Errno
	var n, m int
	if _, had := b.x.owner[a.proc]; a.what == 'x' && had {
		a.what = 'r'
	}
	switch a.what {
	case 's':
		n, did, e = b.k.Step(a.proc, a.choice)
		m, wanted, f = b.x.step(a.proc, a.choice)
	case 'g', 'x':
		e, f = b.k.Give(a.proc, a.space), b.x.give(a.proc, a.space)
	case 'r':
		e, f = b.k.Take(a.proc), b.x.take(a.proc)
	case 'p':
		e, f = b.k.Preempt(a.proc), b.x.preempt(a.proc)
	case 'd':
		e, f = b.k.Done(a.space, a.choice), b.x.done(a.space, a.choice)
	case 't':
		b.k.Tick()
		b.x.tick()
	}
	if n != m || e != f || !sameDid(did, wanted) {
		t.Fatalf("%+v come to %d, %+v, %d; not %d, %+v, %d", b.acts, n, did, e, m, wanted, f)
	}
	overwrite(did.Effect.Woken)
	overwrite(wanted.Effect.Woken)
	return wanted, e
}

// right asks that both show the same, that each processor is had by its owner alone, and each thread that may run is in one place.
func (b *both) right(t *testing.T) {
	t.Helper()
	if !b.sameOwners() || !b.sameCounts() {
		t.Fatalf("%+v come to %d, %d, not to %v", b.acts, b.k.Free(), b.k.Demand(), b.x.owner)
	}
	for space, other := range b.x.libs {
		if l := b.k.Lib(space); !sameLibs(l, other, b.x.procs) || !placed(l, b.x.procs) {
			t.Fatalf("%+v come to %+v, not to %+v", b.acts, l, other)
		}
	}
}

// sameOwners: is each processor that of whom the twin says, and had by that space alone?
func (b *both) sameOwners() bool {
	for proc := -1; proc <= b.x.procs; proc++ {
		space, had := b.k.Owner(proc)
		wanted, is := b.x.owner[proc]
		if space != wanted || had != is {
			return false
		}
		for n := range b.x.libs {
			if _, has := b.k.Lib(n).Look(proc); has != (is && n == wanted) {
				return false
			}
		}
	}
	return true
}

// sameCounts: are Free and Demand what they are to be? They are written over then.
func (b *both) sameCounts() bool {
	var free, demand []int
	for proc := range b.x.procs {
		if _, had := b.x.owner[proc]; !had {
			free = append(free, proc)
		}
	}
	for _, l := range b.x.libs {
		demand = append(demand, len(l.Space().Ready()))
	}
	isFree, isDemand := b.k.Free(), b.k.Demand()
	same := slices.Equal(isFree, free) && slices.Equal(isDemand, demand)
	overwrite(isFree)
	overwrite(isDemand)
	return same && b.k.Procs() == b.x.procs && b.k.Spaces() == len(b.x.libs)
}

// sameLibs: do two libraries show the same?
func sameLibs(a, b *lib.Lib, procs int) bool {
	for proc := range procs {
		v, _ := a.Look(proc)
		w, _ := b.Look(proc)
		if v.Mode != w.Mode || v.Thread != w.Thread || !slices.Equal(v.Events, w.Events) || !slices.Equal(a.Rows().Row(proc), b.Rows().Row(proc)) {
			return false
		}
	}
	return slices.Equal(a.Procs(), b.Procs()) && slices.Equal(a.Waiting(), b.Waiting()) && a.Locked() == b.Locked() && slices.Equal(a.Space().Ready(), b.Space().Ready())
}

// sameSpaces: have all spaces shown the same, and the same memory?
func (b *both) sameSpaces() bool {
	for space, other := range b.x.libs {
		a, c := b.k.Lib(space).Space(), other.Space()
		if !slices.Equal(a.Records(), c.Records()) || !slices.Equal(a.Memory(), c.Memory()) {
			return false
		}
	}
	return true
}

// placed: is each thread that may run in one place, and others in none?
func placed(l *lib.Lib, procs int) bool {
	var found []int
	look := func(list []api.Event) {
		for _, e := range list {
			lets := e.Kind == api.Unblocked || e.Kind == api.Preempted
			if lets && (e.Mode == api.Inside || e.Mode <= 0) && e.Thread >= 0 {
				found = append(found, e.Thread)
			}
		}
	}
	for proc := range procs {
		v, _ := l.Look(proc)
		if thread, runs := vessel.Runs(v); runs {
			found = append(found, thread)
		}
		look(v.Events)
		found = append(found, l.Rows().Row(proc)...)
	}
	look(l.Waiting())
	slices.Sort(found)
	return slices.Equal(found, l.Space().Ready())
}

// shortPrograms is programs, two at a time, in which threads meet, sleep and ask soon.
func shortPrograms() [][]api.Program {
	readers := program(does(spawn(1), one(api.Read, 2), on(api.Jump, 1)), does(two(api.Write, 2, 3), one(api.Self, 3), on(api.Jump, 0)))
	sleepers := program(does(spawn(1), set(2, 1), one(api.Sleep, 2), on(api.Jump, 1)), does(set(2, 1), one(api.Sleep, 2), on(api.Jump, 0)))
	pipes := program(does(spawn(1), yield(), pipe(api.Get, 2, 0), on(api.Jump, 1)), does(pipe(api.Put, 0, 0), one(api.Self, 3), on(api.Jump, 0)))
	return [][]api.Program{{readers, sleepers}, {sleepers, pipes}, {pipes, readers}}
}

// P17.1 and P17.2: all short runs of two processors and two spaces, from many places on the way, held against the twin.
func TestShortRuns(t *testing.T) {
	letters := []act{
		{what: 's'}, {what: 's', proc: 1, choice: 1}, {what: 'x'}, {what: 'x', proc: 1, space: 1}, {what: 'x', proc: 1},
		{what: 'p'}, {what: 't'}, {what: 'd'}, {what: 'd', space: 1, choice: 1},
	}
	length := 3
	count := 1
	for range length {
		count *= len(letters)
	}
	for _, list := range shortPrograms() {
		for ahead := range 40 {
			for number := range count {
				b := newBoth(t, 2, list)
				b.act(t, act{what: 'g', space: ahead % 2})
				b.act(t, act{what: 'g', proc: 1, space: (ahead + ahead/2) % 2})
				for k := range ahead {
					b.act(t, act{what: 's', proc: k / 3 % 2})
				}
				for range length {
					b.act(t, letters[number%len(letters)])
					number /= len(letters)
				}
				b.right(t)
			}
		}
	}
}

// dice is numbers that come in no order, the same ones each time.
type dice uint64

func (d *dice) below(n int) int {
	*d = *d*6364136223846793005 + 1442695040888963407
	return int(uint64(*d) >> 33 % uint64(n))
}

// instr is an instruction of few registers and objects, so that threads meet.
func (d *dice) instr(funcs, length int) api.Instr {
	a, b := 1+d.below(2), 1+d.below(2)
	object := uint64(d.below(2))
	list := []api.Instr{
		set(a, uint64(d.below(3))), set(a, uint64(d.below(3))), yield(), one(api.Self, a), one(api.Print, a), one(api.Sleep, a), one(api.Sleep, a),
		{Op: api.Zero, A: a, N: uint64(d.below(length + 1))}, two(api.Load, a, b), two(api.Store, a, b),
		two(api.Read, a, b), two(api.Write, a, b), two(api.Read, a, b), two(api.Write, a, b),
		on(api.Lock, object), on(api.Unlock, object), on(api.Down, object), on(api.Up, object), on(api.Up, object),
		pipe(api.Put, a, object), pipe(api.Get, a, object), spawn(uint64(d.below(funcs))), two(api.Join, 2, 1), one(api.Exit, a),
	}
	return list[d.below(len(list))]
}

// program is one that may be, of any priority.
func (d *dice) program() api.Program {
	funcs := 1 + d.below(3)
	var all [][]api.Instr
	for range funcs {
		length := 3 + d.below(8)
		list := does(spawn(uint64(d.below(funcs))))
		for len(list) < length {
			list = append(list, d.instr(funcs, length))
		}
		if d.below(3) > 0 { // else they end there
			list = append(list, on(api.Jump, uint64(d.below(2))))
		}
		all = append(all, list)
	}
	p := program(all...)
	p.Prio = d.below(8)
	return p
}

// act is any one, mostly a step; now and then it names what there is not.
func (d *dice) act(procs, spaces int) act {
	choices := []int{0, 0, 0, 1, 2, 3, -1, -2, math.MaxInt, math.MinInt}
	a := act{what: 's', proc: d.below(procs+2) - 1, space: d.below(spaces+2) - 1, choice: choices[d.below(len(choices))]}
	switch k := d.below(100); {
	case k < 6:
		a.what = 'g'
	case k < 8:
		a.what = 'r'
	case k < 10:
		a.what = 'p'
	case k < 13:
		a.what = 't'
	case k < 19:
		a.what = 'd'
	}
	return a
}

// tally is how often what came about.
type tally struct {
	ok, arg, idle, busy, none   int
	commits, stops, ends, wakes int
	alone, shared, told         int
}

// add counts an act, and what came of it.
func (c *tally) add(b *both, a act, did lib.Did, e api.Errno) {
	one := func(n *int, is bool) {
		if is {
			*n++
		}
	}
	one(&c.ok, a.what != 's' && e == api.OK)
	one(&c.arg, e == api.ErrArg)
	one(&c.idle, e == api.ErrIdle)
	one(&c.busy, e == api.ErrBusy)
	one(&c.none, e == api.ErrNone)
	one(&c.commits, did.Commit)
	one(&c.stops, did.Effect.Stopped)
	one(&c.ends, did.Effect.Ended)
	one(&c.wakes, len(did.Effect.Woken) > 0)
	spaces := map[int]int{}
	for _, space := range b.x.owner {
		spaces[space]++
	}
	one(&c.alone, len(spaces) == 1)
	one(&c.shared, len(spaces) > 1)
	one(&c.told, a.what == 'd' && e == api.OK && len(b.x.libs[a.space].Procs()) > 0)
}

// ask asks that all came about often.
func (c *tally) ask(t *testing.T) {
	t.Helper()
	few := []int{c.ok, c.arg, c.idle, c.busy, c.none, c.commits, c.stops, c.ends, c.wakes, c.alone, c.shared, c.told}
	if slices.Min(few) < 200 {
		t.Errorf("something came about seldom: %+v", *c)
	}
}

// P17.1 and P17.2: long runs of programs that came about by dice, of one to five processors and one to four spaces, held against the twin.
func TestLongRuns(t *testing.T) {
	d := dice(17)
	seen := tally{}
	for run := range 1200 {
		procs, spaces := 1+run%5, 1+run/5%4
		var list []api.Program
		for range spaces {
			list = append(list, d.program())
		}
		b := newBoth(t, procs, list)
		for range 400 {
			a := d.act(procs, spaces)
			did, e := b.act(t, a)
			b.right(t)
			seen.add(b, a, did, e)
		}
		if !b.sameSpaces() {
			t.Fatalf("%+v: the spaces are not the same", b.acts)
		}
	}
	seen.ask(t)
}

// P17.1 and P17.2: as many processors and spaces as there may be.
func TestLongRunsOfAll(t *testing.T) {
	d := dice(64)
	for range 8 {
		var list []api.Program
		for range api.MaxSpaces {
			list = append(list, d.program())
		}
		b := newBoth(t, api.MaxProcs, list)
		for n := range 3000 {
			b.act(t, d.act(api.MaxProcs, api.MaxSpaces))
			if n%20 == 0 {
				b.right(t)
			}
		}
		if b.right(t); !b.sameSpaces() {
			t.Fatalf("%+v: the spaces are not the same", b.acts)
		}
	}
}
