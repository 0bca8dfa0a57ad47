package sys_test

import (
	"slices"
	"testing"

	"drawknife/alloc"
	"drawknife/api"
	"drawknife/kern"
	"drawknife/one"
	"drawknife/sys"
)

// twin is what the chapter says of entries, told anew on a kernel of its own.
type twin struct {
	k    *kern.Kern
	list []api.Program
	turn int
	log  []api.Act
}

// beginTwin is one with the first sharing done.
func beginTwin(t *testing.T, procs int, list []api.Program) *twin {
	t.Helper()
	k, e := kern.New(procs, list)
	if e != api.OK {
		t.Fatalf("the twin is %d", e)
	}
	x := &twin{k: k, list: list}
	x.share()
	return x
}

// prio is the programs' priorities.
func (x *twin) prio() []int {
	var list []int
	for _, p := range x.list {
		list = append(list, p.Prio)
	}
	return list
}
func (x *twin) share() { alloc.Share(x.k, x.prio(), x.turn) }

// do is what an entry comes to.
func (x *twin) do(s api.Step) api.Errno {
	if s.Kind == 1 {
		space, did, e := x.k.Step(s.A, s.B)
		if e == 0 && did.Commit {
			x.log = append(x.log, api.Act{Kind: 1, Space: space, Thread: did.Slot, Choice: s.B})
		}
		return e
	}
	if s.Kind == 2 {
		x.k.Tick()
		x.log = append(x.log, api.Act{Kind: 3})
		return 0
	}
	if s.Kind == 3 {
		e := x.k.Done(s.A, s.B)
		if e == 0 {
			x.log = append(x.log, api.Act{Kind: 2, Space: s.A, Choice: s.B})
		}
		return e
	}
	if s.Kind == 4 {
		return x.k.Preempt(s.A)
	}
	if s.Kind == 5 {
		x.turn = s.A
		return 0
	}
	if s.Kind == 6 {
		x.share()
		return 0
	}
	return 1
}

// shows is what a system of the twin's would show.
func (x *twin) shows() shown {
	y := shown{numbers: append(ofKern(x.k), x.turn), log: x.log}
	for space := range x.k.Spaces() {
		y.records = append(y.records, x.k.Lib(space).Space().Records())
		y.memory = append(y.memory, x.k.Lib(space).Space().Memory())
	}
	return y
}

// held is a system with its twin, and the model, by the acts of which the log has told so far.
type held struct {
	s    *sys.Sys
	x    *twin
	o    *one.One
	acts int
}

func hold(t *testing.T, procs int, list []api.Program) *held {
	t.Helper()
	o, e := one.New(list)
	if e != api.OK {
		t.Fatalf("the model is %d", e)
	}
	return &held{s: begin(t, procs, list...), x: beginTwin(t, procs, list), o: o}
}

// do has an entry be done by both, which come to the same error.
func (h *held) do(t *testing.T, x api.Step) api.Errno {
	t.Helper()
	e, f := h.s.Do(x), h.x.do(x)
	if e != f {
		t.Fatalf("Do(%+v) is %d, not %d", x, e, f)
	}
	return e
}

// check asks that the system shows what its twin does, and of each space what the model does by what was logged since.
func (h *held) check(t *testing.T) {
	t.Helper()
	still(t, h.s, h.x.shows())
	log := h.s.Log()
	for _, a := range log[h.acts:] {
		if e := h.o.Do(a); e != api.OK {
			t.Fatalf("the model's %+v is %d", a, e)
		}
	}
	h.acts = len(log)
	isAs(t, h.s, h.o)
}

// all goes through all rows of so many numbers from 0 on to below high.
func all(count, high int, each func([]int)) {
	row := alike(count, 0)
	for {
		each(row)
		n := 0
		for n < count && row[n] == high-1 {
			row[n] = 0
			n++
		}
		if n == count {
			return
		}
		row[n]++
	}
}

// busy is two programs in which something of each kind comes about soon.
func busy() []api.Program {
	first := program(
		does(spawn(1), on(api.Lock, 0), two(api.Write, 3, 2), on(api.Unlock, 0), reg(api.Sleep, 1), reg(api.Print, 2), on(api.Jump, 1)),
		does(set(2, 1), on(api.Lock, 0), two(api.Store, 3, 2), on(api.Unlock, 0), yield(), on(api.Jump, 0)))
	second := program(does(two(api.Read, 2, 1), set(1, 1), reg(api.Sleep, 1), on(api.Up, 0), on(api.Down, 0), on(api.Jump, 0)))
	second.Prio = 1
	return []api.Program{first, second}
}

// P19.1, P19.2: all rows of four entries, from here and there on the way, held against the twin and the model.
func TestShortRuns(t *testing.T) {
	letters := []api.Step{proc(0, 0), proc(1, 1), tick(), done(0, 0), done(1, 1), preempt(0), turn(1), share()}
	for _, lead := range []int{0, 9, 17, 26, 41, 58, 90} {
		all(4, len(letters), func(row []int) {
			h := hold(t, 2, busy())
			for n := range lead {
				h.do(t, []api.Step{proc(0, 0), proc(1, 0), proc(0, 1), done(1, 0), proc(1, 0), tick()}[n%6])
			}
			for _, n := range row {
				h.do(t, letters[n])
				h.check(t)
			}
		})
	}
}

// dice is numbers that come in no order, the same ones each time.
type dice uint64

func (d *dice) below(n int) int {
	*d = *d*6364136223846793005 + 1442695040888963407
	return int(uint64(*d) >> 33 % uint64(n))
}

// instr is an instruction of few registers and objects, so that threads meet.
func (d *dice) instr(funcs, length int) api.Instr {
	a, b := 1+d.below(2), 1+d.below(2)
	object := uint64(d.below(2))
	list := []api.Instr{
		set(a, uint64(d.below(3))), yield(), reg(api.Self, a), reg(api.Print, a), reg(api.Sleep, a), reg(api.Detach, a),
		{Op: api.Zero, A: a, N: uint64(d.below(length + 1))}, two(api.Load, a, b), two(api.Store, a, b),
		two(api.Read, a, b), two(api.Write, a, b),
		on(api.Lock, object), on(api.Unlock, object), on(api.Down, object), on(api.Up, object), on(api.Up, object),
		{Op: api.Wait, N: object, C: d.below(2)}, on(api.Signal, object), on(api.Broadcast, object),
		pipe(api.Put, a, object), pipe(api.Get, a, object), spawn(uint64(d.below(funcs))), spawn(uint64(d.below(funcs))), two(api.Join, 2, 1), reg(api.Exit, a),
	}
	return list[d.below(len(list))]
}

// program is one that may be.
func (d *dice) program() api.Program {
	funcs := 1 + d.below(3)
	var code [][]api.Instr
	for range funcs {
		length := 3 + d.below(8)
		list := does(spawn(uint64(d.below(funcs))))
		for len(list) < length {
			list = append(list, d.instr(funcs, length))
		}
		if d.below(3) > 0 { // else they end there
			list = append(list, on(api.Jump, uint64(d.below(2))))
		}
		code = append(code, list)
	}
	p := program(code...)
	p.Prio = d.below(3)
	return p
}

// number is one that is told by an entry: mostly from 0 to just below high.
func (d *dice) number(high int) int {
	if d.below(20) == 0 {
		list := append(ends(), high, high+1)
		return list[d.below(len(list))]
	}
	return d.below(high)
}

// step is any entry.
func (d *dice) step(procs, spaces int) api.Step {
	choice := d.number(5)
	switch n := d.below(100); {
	case n < 72:
		return proc(d.number(procs), choice)
	case n < 77:
		return tick()
	case n < 87:
		return done(d.number(spaces), choice)
	case n < 91:
		return preempt(d.number(procs))
	case n < 94:
		return turn(d.number(spaces))
	case n < 98:
		return share()
	}
	return api.Step{Kind: d.number(9), A: d.number(3), B: choice}
}

// tally is how often what came about: entries by kind and error, and acts by kind.
type tally struct {
	entries [7][12]int
	acts    [4]int
}

// add counts an entry.
func (c *tally) add(x api.Step, e api.Errno) {
	kind := 0
	if x.Kind > 0 && x.Kind < 7 {
		kind = x.Kind
	}
	c.entries[kind][e]++
}

// ask asks that each entry came to each of its errors often, and that acts of each kind came about.
func (c *tally) ask(t *testing.T) {
	t.Helper()
	few := []int{
		c.entries[0][api.ErrArg], c.entries[1][api.OK], c.entries[1][api.ErrArg], c.entries[1][api.ErrIdle],
		c.entries[2][api.OK], c.entries[3][api.OK], c.entries[3][api.ErrArg], c.entries[3][api.ErrNone],
		c.entries[4][api.OK], c.entries[4][api.ErrArg], c.entries[4][api.ErrIdle], c.entries[5][api.OK], c.entries[6][api.OK],
		c.acts[api.ActRun], c.acts[api.ActDone], c.acts[api.ActTick],
	}
	if slices.Min(few) < 200 {
		t.Errorf("something came about seldom: %d of %+v", few, *c)
	}
}

// run is a system of programs that came about by dice, behind so many entries.
func (d *dice) run(t *testing.T, procs, spaces, entries int, seen *tally) {
	t.Helper()
	var list []api.Program
	for range spaces {
		list = append(list, d.program())
	}
	h := hold(t, procs, list)
	for n := range entries {
		x := d.step(procs, spaces)
		seen.add(x, h.do(t, x))
		if n%8 == 0 || x.Kind == api.StepShare {
			h.check(t)
		}
		if x.Kind == api.StepShare && !alloc.Fair(h.s.Kern(), h.x.prio(), h.s.Turn()) {
			t.Fatalf("%d is not fair", owners(h.s.Kern()))
		}
	}
	h.check(t)
	follows(t, h.s, list)
	for _, a := range h.s.Log() {
		seen.acts[a.Kind]++
	}
}

// P19.1, P19.2: long runs of programs that came about by dice, held against the twin and the model.
func TestLongRuns(t *testing.T) {
	d := dice(19)
	seen := tally{}
	for n := range 300 {
		d.run(t, 1+n%7, 1+n/7%5, 600, &seen)
	}
	seen.ask(t)
}

// P19.1, P19.2: as many processors and spaces as there may be.
func TestLongRunsOfAll(t *testing.T) {
	d := dice(64)
	seen := tally{}
	for range 5 {
		d.run(t, api.MaxProcs, api.MaxSpaces, 4000, &seen)
	}
}
