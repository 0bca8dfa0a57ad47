package core_test

import (
	"math"
	"slices"
	"testing"

	"drawknife/api"
	"drawknife/core"
	"drawknife/frame"
)

// person is a thread that has a slot: what it waits for, since when, and what it waits with.
type person struct {
	api.Thread
	doing    api.Instr
	on       uint64 // which object, handle or moment
	with     int    // the mutex that was given up
	word     uint64 // that is to be put or written
	since    int
	detached bool
}

// told is a space by its people alone: no row is kept, who waits is in order by since when they do.
type told struct {
	p       api.Program
	people  map[int]*person
	taken   map[int]uint64
	owners  map[uint64]int
	counts  []int
	pipes   [][]uint64
	blocks  map[uint64]uint64
	memory  []uint64
	records []api.Record
	now     uint64
	moment  int
	woken   []int
}

func newTold(p api.Program) *told {
	h := &told{p: p, people: map[int]*person{}, taken: map[int]uint64{}, owners: map[uint64]int{}, counts: slices.Clone(p.Sems),
		pipes: make([][]uint64, len(p.Pipes)), blocks: map[uint64]uint64{}, memory: make([]uint64, p.Words)}
	h.enter(0, 0)
	return h
}

// enter: someone comes into the least free slot; nil: there is none.
func (h *told) enter(function int, word uint64) (int, *person) {
	for slot := range api.MaxThreads {
		if h.people[slot] == nil {
			h.taken[slot]++
			w := &person{Thread: api.Thread{Handle: h.taken[slot]<<16 + uint64(slot) + 1, Func: function}}
			w.Regs[0] = word
			h.people[slot] = w
			return slot, w
		}
	}
	return 0, nil
}

// row is who waits for something, by since when.
func (h *told) row(why int, number uint64) []int {
	var list []int
	for slot, w := range h.people {
		if w.Why == why && w.on == number {
			list = append(list, slot)
		}
	}
	slices.SortFunc(list, func(a, b int) int { return h.people[a].since - h.people[b].since })
	return list
}

// pick is one of a row by a choice; -1: the row is empty.
func pick(row []int, choice int) int {
	n := len(row)
	if n == 0 {
		return -1
	}
	return row[((choice%n)+n)%n]
}

// stop: someone waits from now on.
func (h *told) stop(w *person, why int, number uint64) {
	h.moment++
	w.Why, w.on, w.since = why, number, h.moment
}

// record: one sees what someone does.
func (h *told) record(w *person, op int, x, y uint64, e api.Errno, end bool) {
	h.records = append(h.records, api.Record{Thread: w.Handle, Op: op, X: x, Y: y, Result: e, End: end})
}

// wake: someone goes on.
func (h *told) wake(slot int, got uint64) {
	w := h.people[slot]
	w.Why = api.Runs
	if op := w.doing.Op; op == api.Join || op == api.Read || op == api.Get {
		w.Regs[w.doing.A] = got
	}
	w.Regs[7] = 0
	h.record(w, w.doing.Op, 0, got, api.OK, true)
	h.woken = append(h.woken, slot)
}

// leave: someone ends, whose record is told.
func (h *told) leave(slot int, value uint64) core.Effect {
	w := h.people[slot]
	joiner := pick(h.row(api.OnJoin, w.Handle), 0)
	if w.detached || joiner >= 0 {
		delete(h.people, slot)
	} else {
		w.Why, w.Value = api.Finished, value
	}
	if joiner >= 0 {
		h.wake(joiner, value)
	}
	return core.Effect{Ended: true}
}

// run is what Run answers.
func (h *told) run(slot, choice int) (core.Effect, api.Errno) {
	w := h.people[slot]
	if w == nil {
		return core.Effect{}, api.ErrArg
	}
	if w.Why != api.Runs {
		return core.Effect{}, api.ErrBusy
	}
	h.woken = nil
	e := h.step(slot, w, choice)
	e.Woken = h.woken
	return e, api.OK
}

// step does the next instruction of one that runs.
func (h *told) step(slot int, w *person, choice int) core.Effect {
	list := h.p.Funcs[w.Func]
	if w.PC >= len(list) {
		h.record(w, api.Exit, 0, 0, api.OK, true)
		return h.leave(slot, 0)
	}
	i := list[w.PC]
	if i.Op == api.Load || i.Op == api.Store {
		return h.access(slot, w, i)
	}
	w.PC++
	switch {
	case i.Op == api.Jump, i.Op == api.Zero && w.Regs[i.A] == 0:
		w.PC = int(i.N)
	case i.Op == api.Zero:
	case i.Op == api.Set:
		w.Regs[i.A] = i.N
	case i.Op < api.Jump:
		w.Regs[i.A], _ = frame.Arith(i.Op, w.Regs[i.B], w.Regs[i.C])
	case i.Op == api.Exit:
		h.record(w, api.Exit, w.Regs[i.A], 0, api.OK, true)
		return h.leave(slot, w.Regs[i.A])
	default:
		w.doing = i
		h.call(slot, w, choice)
		return core.Effect{Stopped: w.Why != api.Runs, Yielded: i.Op == api.Yield}
	}
	return core.Effect{}
}

// access does a Load or a Store.
func (h *told) access(slot int, w *person, i api.Instr) core.Effect {
	at, word := w.Regs[i.B], uint64(0)
	if i.Op == api.Store {
		at, word = w.Regs[i.A], w.Regs[i.B]
	}
	if at >= uint64(h.p.Words) {
		h.record(w, i.Op, at, word, api.ErrFault, true)
		return h.leave(slot, math.MaxUint64)
	}
	if i.Op == api.Store {
		h.memory[at] = word
	} else {
		word = h.memory[at]
		w.Regs[i.A] = word
	}
	h.record(w, i.Op, at, word, api.OK, true)
	w.PC++
	return core.Effect{}
}

// over: what someone does was done at once, with what goes into A (if anything does).
func (h *told) over(w *person, x, y uint64, e api.Errno, word ...uint64) {
	if len(word) > 0 {
		w.Regs[w.doing.A] = word[0]
	}
	w.Regs[7] = uint64(e)
	h.record(w, w.doing.Op, x, y, e, true)
}

// blocked: what someone does goes on later.
func (h *told) blocked(w *person, x, y uint64, why int, number uint64) {
	h.record(w, w.doing.Op, x, y, api.OK, false)
	h.stop(w, why, number)
}

// call does an instruction of the library or the kernel.
func (h *told) call(slot int, w *person, choice int) {
	i := w.doing
	a, b := w.Regs[i.A], w.Regs[i.B]
	switch i.Op {
	case api.Spawn:
		if at, other := h.enter(int(i.N), b); other != nil {
			h.over(w, i.N, other.Handle, api.OK, other.Handle)
			h.woken = append(h.woken, at)
		} else {
			h.over(w, i.N, 0, api.ErrFull, 0)
		}
	case api.Self:
		h.over(w, 0, w.Handle, api.OK, w.Handle)
	case api.Yield:
		h.over(w, 0, 0, api.OK)
	case api.Print:
		h.over(w, a, 0, api.OK)
	case api.Join, api.Detach:
		h.meet(w, i.Op == api.Join)
	case api.Read, api.Write:
		h.disk(w)
	case api.Put, api.Get:
		h.pipe(w)
	case api.Sleep:
		switch {
		case a == 0:
			h.over(w, a, 0, api.OK)
		case a > api.MaxTime:
			h.over(w, a, 0, api.ErrArg)
		default:
			h.blocked(w, a, 0, api.OnSleep, h.now+a)
		}
	default:
		h.gate(slot, w, choice)
	}
}

// meet does a Join or a Detach.
func (h *told) meet(w *person, join bool) {
	handle := w.Regs[w.doing.A]
	if join {
		handle = w.Regs[w.doing.B]
	}
	at, other := -1, (*person)(nil)
	for slot, o := range h.people {
		if o.Handle == handle && o != w && !o.detached {
			at, other = slot, o
		}
	}
	switch {
	case other == nil:
		h.over(w, handle, 0, api.ErrNone)
	case len(h.row(api.OnJoin, handle)) > 0:
		h.over(w, handle, 0, api.ErrBusy)
	case other.Why == api.Finished && join:
		delete(h.people, at)
		h.over(w, handle, other.Value, api.OK, other.Value)
	case other.Why == api.Finished:
		delete(h.people, at)
		h.over(w, handle, 0, api.OK)
	case join:
		h.blocked(w, handle, 0, api.OnJoin, handle)
	default:
		other.detached = true
		h.over(w, handle, 0, api.OK)
	}
}

// disk does a Read or a Write; all requests are one row, of number 0.
func (h *told) disk(w *person) {
	block, word := w.Regs[w.doing.B], uint64(0)
	if w.doing.Op == api.Write {
		block, word = w.Regs[w.doing.A], w.Regs[w.doing.B]
	}
	if block >= uint64(h.p.Blocks) {
		h.over(w, block, word, api.ErrArg)
		return
	}
	w.with, w.word = int(block), word
	h.blocked(w, block, word, api.OnDisk, 0)
}

// pipe does a Put or a Get.
func (h *told) pipe(w *person) {
	n := w.doing.N
	if w.doing.Op == api.Put {
		w.word = w.Regs[w.doing.A]
		getter := pick(h.row(api.OnGet, n), 0)
		switch {
		case getter >= 0:
			h.over(w, n, w.word, api.OK)
			h.wake(getter, w.word)
		case len(h.pipes[n]) < h.p.Pipes[n]:
			h.pipes[n] = append(h.pipes[n], w.word)
			h.over(w, n, w.word, api.OK)
		default:
			h.blocked(w, n, w.word, api.OnPut, n)
		}
		return
	}
	if len(h.pipes[n]) == 0 {
		h.blocked(w, n, 0, api.OnGet, n)
		return
	}
	word := h.pipes[n][0]
	h.pipes[n] = h.pipes[n][1:]
	h.over(w, n, word, api.OK, word)
	if putter := pick(h.row(api.OnPut, n), 0); putter >= 0 {
		h.pipes[n] = append(h.pipes[n], h.people[putter].word)
		h.wake(putter, 0)
	}
}

// owns: has someone a mutex?
func (h *told) owns(slot int, m uint64) bool {
	owner, owned := h.owners[m]
	return owned && owner == slot
}

// giveUp: a mutex goes to the one by choice.
func (h *told) giveUp(m uint64, choice int) {
	delete(h.owners, m)
	if next := pick(h.row(api.OnMutex, m), choice); next >= 0 {
		h.owners[m] = next
		h.wake(next, 0)
	}
}

// gate does what has to do with mutexes, conditions and semaphores.
func (h *told) gate(slot int, w *person, choice int) {
	n, m := w.doing.N, uint64(w.doing.C)
	_, owned := h.owners[n]
	switch op := w.doing.Op; {
	case op == api.Lock && h.owns(slot, n):
		h.over(w, n, 0, api.ErrBusy)
	case op == api.Lock && owned:
		h.blocked(w, n, 0, api.OnMutex, n)
	case op == api.Lock:
		h.owners[n] = slot
		h.over(w, n, 0, api.OK)
	case op == api.Unlock && !h.owns(slot, n):
		h.over(w, n, 0, api.ErrOwner)
	case op == api.Unlock:
		h.over(w, n, 0, api.OK)
		h.giveUp(n, choice)
	case op == api.Wait && !h.owns(slot, m):
		h.over(w, n, m, api.ErrOwner)
	case op == api.Wait:
		w.with = int(m)
		h.blocked(w, n, m, api.OnCond, n)
		h.giveUp(m, choice)
	case op == api.Down && h.counts[n] > 0:
		h.counts[n]--
		h.over(w, n, 0, api.OK)
	case op == api.Down:
		h.blocked(w, n, 0, api.OnSem, n)
	case op == api.Up:
		h.up(w, n, choice)
	default:
		h.signal(w, n, choice)
	}
}

// up does an Up.
func (h *told) up(w *person, n uint64, choice int) {
	who := pick(h.row(api.OnSem, n), choice)
	switch {
	case who >= 0:
		h.over(w, n, 0, api.OK)
		h.wake(who, 0)
	case h.counts[n] == api.MaxCount:
		h.over(w, n, 0, api.ErrFull)
	default:
		h.counts[n]++
		h.over(w, n, 0, api.OK)
	}
}

// signal does a Signal or a Broadcast.
func (h *told) signal(w *person, n uint64, choice int) {
	h.over(w, n, 0, api.OK)
	row := h.row(api.OnCond, n)
	if who := pick(row, choice); who >= 0 && w.doing.Op == api.Signal {
		row = []int{who}
	}
	for _, who := range row {
		o := h.people[who]
		if _, owned := h.owners[uint64(o.with)]; owned {
			h.stop(o, api.OnMutex, uint64(o.with))
		} else {
			h.owners[uint64(o.with)] = who
			h.wake(who, 0)
		}
	}
}

// done is what Done answers.
func (h *told) done(k int) (core.Effect, api.Errno) {
	who := pick(h.row(api.OnDisk, 0), k)
	if who < 0 {
		return core.Effect{}, api.ErrNone
	}
	h.woken = nil
	w := h.people[who]
	if w.doing.Op == api.Write {
		h.blocks[uint64(w.with)] = w.word
		h.wake(who, 0)
	} else {
		h.wake(who, h.blocks[uint64(w.with)])
	}
	return core.Effect{Woken: h.woken}, api.OK
}

// tick is what Tick answers.
func (h *told) tick() core.Effect {
	h.now++
	h.woken = nil
	for slot := range api.MaxThreads {
		if w := h.people[slot]; w != nil && w.Why == api.OnSleep && w.on == h.now {
			h.wake(slot, 0)
		}
	}
	return core.Effect{Woken: h.woken}
}

// class is what Class answers.
func (h *told) class(slot int) int {
	w := h.people[slot]
	if w == nil || w.Why != api.Runs {
		return 0
	}
	if w.PC >= len(h.p.Funcs[w.Func]) {
		return 2
	}
	switch op := h.p.Funcs[w.Func][w.PC].Op; {
	case op >= api.Read:
		return 3
	case op >= api.Spawn:
		return 2
	}
	return 1
}

// ready is who may run.
func (h *told) ready() []int {
	var list []int
	for slot := range api.MaxThreads {
		if h.class(slot) != 0 {
			list = append(list, slot)
		}
	}
	return list
}

// both is a space and what it is held against, with the acts by now.
type both struct {
	s    *core.Space
	h    *told
	acts []api.Act
}

func newBoth(t *testing.T, p api.Program) *both {
	t.Helper()
	return &both{s: begin(t, p), h: newTold(p)}
}

// act does one act in both, whose answers are the same.
func (x *both) act(t *testing.T, a api.Act) {
	t.Helper()
	x.acts = append(x.acts, a)
	var got, wanted core.Effect
	var err, wantedErr api.Errno
	switch a.Kind {
	case api.ActRun:
		got, err = x.s.Run(a.Thread, a.Choice)
		wanted, wantedErr = x.h.run(a.Thread, a.Choice)
	case api.ActDone:
		got, err = x.s.Done(a.Choice)
		wanted, wantedErr = x.h.done(a.Choice)
	default:
		got, wanted = x.s.Tick(), x.h.tick()
	}
	if !sameEffect(got, wanted) || err != wantedErr {
		t.Fatalf("of %v by %v: %+v, %d; not %+v, %d", x.h.p, x.acts, got, err, wanted, wantedErr)
	}
	x.same(t)
}

// same asks that one sees the same of both.
func (x *both) same(t *testing.T) {
	t.Helper()
	if got := x.s.Records(); !slices.Equal(got, x.h.records) {
		t.Fatalf("of %v by %v: records\n%v, not\n%v", x.h.p, x.acts, got, x.h.records)
	}
	if got := x.s.Memory(); !slices.Equal(got, x.h.memory) {
		t.Fatalf("of %v by %v: memory %v, not %v", x.h.p, x.acts, got, x.h.memory)
	}
	if got, wanted := x.s.Ready(), x.h.ready(); !slices.Equal(got, wanted) {
		t.Fatalf("of %v by %v: ready %v, not %v", x.h.p, x.acts, got, wanted)
	}
	for slot := -1; slot <= api.MaxThreads; slot++ {
		var wanted api.Thread
		if w := x.h.people[slot]; w != nil {
			wanted = w.Thread
		}
		if got, ok := x.s.Look(slot); got != wanted || ok != (wanted.Handle != 0) || x.s.Class(slot) != x.h.class(slot) {
			t.Fatalf("of %v by %v: thread %d is %+v, %t, class %d; not %+v, class %d", x.h.p, x.acts, slot, got, ok, x.s.Class(slot), wanted, x.h.class(slot))
		}
	}
}

// shortPrograms are some whose threads meet at each kind of object.
func shortPrograms() []api.Program {
	begins := func(list ...api.Instr) []api.Instr { return append(does(spawn(1, 0, 1), spawn(2, 1, 1)), list...) }
	return []api.Program{
		all(begins(two(api.Join, 3, 1), one(api.Detach, 2)), does(two(api.Join, 1, 0), one(api.Self, 7), one(api.Exit, 7))),
		all(begins(on(api.Lock, 0), wait(0, 0), on(api.Unlock, 0)), does(on(api.Lock, 0), on(api.Signal, 0), on(api.Unlock, 0))),
		all(begins(on(api.Lock, 0), on(api.Broadcast, 0), on(api.Unlock, 0)), does(on(api.Lock, 0), wait(0, 0), on(api.Unlock, 0))),
		all(begins(on(api.Up, 0), on(api.Up, 0), on(api.Down, 0)), does(on(api.Down, 0), one(api.Yield, 0), on(api.Down, 0))),
		all(begins(pipe(api.Put, 1, 0), pipe(api.Put, 2, 0), pipe(api.Get, 7, 0)), does(pipe(api.Get, 0, 0), pipe(api.Put, 0, 0))),
		all(begins(two(api.Write, 3, 1), two(api.Read, 4, 3)), does(set(1, 2), two(api.Write, 3, 1), two(api.Read, 7, 3))),
		all(begins(one(api.Sleep, 3), set(3, 2), one(api.Sleep, 3)), does(set(3, 1), one(api.Sleep, 3), one(api.Sleep, 3))),
	}
}

// P10.1 and P10.2: all short runs of threads that meet, held against people that wait.
func TestShortRuns(t *testing.T) {
	acts := []api.Act{{Kind: api.ActRun}, {Kind: api.ActRun, Thread: 1}, {Kind: api.ActRun, Thread: 2, Choice: 1}, {Kind: api.ActDone, Choice: 1}, {Kind: api.ActTick}}
	for _, p := range shortPrograms() {
		length := 6
		count := 1
		for range length {
			count *= len(acts)
		}
		for number := range count {
			x := newBoth(t, p)
			x.act(t, acts[0])
			x.act(t, acts[0])
			for n := number; len(x.acts) < length+2; n /= len(acts) {
				x.act(t, acts[n%len(acts)])
			}
		}
	}
}

// dice is numbers that come in no order, the same ones each time.
type dice uint64

func (d *dice) below(n int) int {
	*d = *d*6364136223846793005 + 1442695040888963407
	return int(uint64(*d) >> 33 % uint64(n))
}

// word is a word that is often small, sometimes at an end.
func (d *dice) word() uint64 {
	words := []uint64{0, 0, 1, 1, 2, 3, 5, 63, 64, first, second, third, 1 << 40, 1<<40 + 1, 1<<63 - 1, 1 << 63, 1<<63 + 1, math.MaxUint64}
	return words[d.below(len(words))]
}

// instr is an instruction that may be, of few registers and objects, so that threads meet.
func (d *dice) instr(funcs, length int) api.Instr {
	a, b, c := d.below(3), d.below(3), d.below(3)
	if d.below(12) == 0 {
		a = 7
	}
	object := uint64(d.below(2))
	for {
		op := d.below(api.Print) + 1
		switch op {
		case api.Set:
			return set(a, d.word())
		case api.Move, api.ToInt, api.ToFloat, api.Join, api.Read, api.Write:
			return two(op, a, b)
		case api.Load, api.Store:
			if d.below(3) == 0 { // most words fault, which ends too many
				return two(op, a, b)
			}
		case api.Jump:
			return on(op, uint64(d.below(length+2)))
		case api.Zero:
			return api.Instr{Op: op, A: a, N: uint64(d.below(length + 2))}
		case api.Spawn:
			return spawn(a, b, uint64(d.below(funcs)))
		case api.Exit:
			if d.below(4) == 0 {
				return one(op, a)
			}
		case api.Detach, api.Self, api.Sleep, api.Print:
			return one(op, a)
		case api.Yield:
			return one(op, 0)
		case api.Lock, api.Unlock, api.Signal, api.Broadcast, api.Down, api.Up:
			return on(op, object)
		case api.Wait:
			return wait(object, d.below(2))
		case api.Put, api.Get:
			return pipe(op, a, object)
		default:
			return api.Instr{Op: op, A: a, B: b, C: c}
		}
	}
}

// phrase is some instructions: mostly any one, sometimes some that are seldom of use each by itself.
func (d *dice) phrase(funcs, length int) []api.Instr {
	n, m := uint64(d.below(2)), d.below(2)
	function := uint64(d.below(funcs))
	switch d.below(16) {
	case 0:
		return does(on(api.Lock, uint64(m)), wait(n, m), on(api.Unlock, uint64(m)))
	case 1:
		return does(on(api.Lock, uint64(m)), on(api.Signal+d.below(2), n), on(api.Unlock, uint64(m)))
	case 2:
		return does(spawn(1, 0, function), two(api.Join, 2, 1))
	case 3: // the one that begins knows of the other one
		return does(spawn(0, 0, function), spawn(1, 0, function), two(api.Join, 2, 0))
	case 4:
		return does(one(api.Self, 0), spawn(1, 0, function), one(api.Detach, 0))
	}
	return does(d.instr(funcs, length))
}

// program is one that may be.
func (d *dice) program() api.Program {
	p := api.Program{Words: d.below(3) * 2, Mutexes: 2, Conds: 2, Sems: []int{d.below(2), api.MaxCount - d.below(2)}, Pipes: []int{1, 2}, Blocks: 2}
	funcs := 1 + d.below(4)
	for range funcs {
		length := 2 + d.below(14)
		var list []api.Instr
		for len(list) < length {
			list = append(list, d.phrase(funcs, length)...)
		}
		p.Funcs = append(p.Funcs, list)
	}
	return p
}

// choice is one that is often small, sometimes at an end.
func (d *dice) choice() int {
	choices := []int{0, 0, 1, 2, 3, -1, -2, 7, math.MaxInt, math.MinInt}
	return choices[d.below(len(choices))]
}

// next is an act: mostly of one that may run.
func (d *dice) next(ready []int) api.Act {
	switch k := d.below(20); {
	case k < 15 && len(ready) > 0:
		return api.Act{Kind: api.ActRun, Thread: ready[d.below(len(ready))], Choice: d.choice()}
	case k < 16:
		return api.Act{Kind: api.ActRun, Thread: d.below(api.MaxThreads+2) - 1, Choice: d.choice()}
	case k < 18:
		return api.Act{Kind: api.ActDone, Choice: d.choice()}
	}
	return api.Act{Kind: api.ActTick}
}

// P10.1 and P10.2: long runs of programs that came about by dice, held against people that wait; each kind of record comes about often.
func TestLongRuns(t *testing.T) {
	d := dice(1)
	seen := map[api.Record]int{}
	for range 4000 {
		x := newBoth(t, d.program())
		for range 120 {
			x.act(t, d.next(x.s.Ready()))
		}
		for _, r := range x.s.Records() {
			seen[api.Record{Op: r.Op, Result: r.Result, End: r.End}]++
		}
	}
	for _, r := range kinds() {
		if seen[r] < 20 {
			t.Errorf("%+v was told %d times", r, seen[r])
		}
	}
}

// kinds is all kinds of records that there are.
func kinds() []api.Record {
	var list []api.Record
	for op := api.Load; op <= api.Print; op++ {
		list = append(list, api.Record{Op: op, End: true})
	}
	for _, op := range []int{api.Join, api.Lock, api.Wait, api.Down, api.Read, api.Write, api.Put, api.Get, api.Sleep} {
		list = append(list, api.Record{Op: op})
	}
	errors := map[int][]api.Errno{api.Load: {api.ErrFault}, api.Store: {api.ErrFault}, api.Spawn: {api.ErrFull}, api.Join: {api.ErrNone, api.ErrBusy},
		api.Detach: {api.ErrNone, api.ErrBusy}, api.Lock: {api.ErrBusy}, api.Unlock: {api.ErrOwner}, api.Wait: {api.ErrOwner},
		api.Up: {api.ErrFull}, api.Read: {api.ErrArg}, api.Write: {api.ErrArg}, api.Sleep: {api.ErrArg}}
	for op, all := range errors {
		for _, e := range all {
			list = append(list, api.Record{Op: op, Result: e, End: true})
		}
	}
	return list
}
