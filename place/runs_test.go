package place_test

import (
	"slices"
	"testing"

	"drawknife/api"
	"drawknife/kern"
	"drawknife/lib"
	"drawknife/place"
	"drawknife/sys"
)

// isOf: is an event one of a thread, as the chapter has it, told anew by numbers?
func isOf(e api.Event, thread int) bool {
	switch {
	case e.Thread != thread:
		return false
	case e.Mode >= 1:
		return true
	}
	return (e.Kind == 3 || e.Kind == 4) && thread >= 0
}

// twinOf is what the chapter says of where a thread is, told anew.
func twinOf(k *kern.Kern, space, thread int) []api.Place {
	var list []api.Place
	if space < 0 || space >= k.Spaces() {
		return list
	}
	l := k.Lib(space)
	for p := range k.Procs() {
		v, had := l.Look(p)
		if had && thread >= 0 && v.Thread == thread && v.Mode >= 5 && v.Mode <= 7 {
			list = append(list, api.Place{Kind: 1, At: p})
		}
		for _, e := range v.Events {
			if isOf(e, thread) {
				list = append(list, api.Place{Kind: 3, At: p})
			}
		}
	}
	for p := range k.Procs() {
		if slices.Contains(l.Rows().Row(p), thread) {
			list = append(list, api.Place{Kind: 2, At: p})
		}
	}
	for _, e := range l.Waiting() {
		if isOf(e, thread) {
			list = append(list, api.Place{Kind: 4, At: -1})
		}
	}
	return list
}

// Why it is not right.
const (
	allRight = iota
	nowhere  // who may run is in no place
	twice    // who may run is in more than one
	ghost    // another slot is in one
	alien    // a processor is had by one that is not its owner
	lost     // it is not had by its owner
	reasons
)

// twinRight is all that is not right, by the chapter told anew.
func twinRight(k *kern.Kern) []int {
	seen := make([]int, reasons)
	for space := range k.Spaces() {
		l := k.Lib(space)
		for slot := range 16 {
			v, there := l.Space().Look(slot)
			runs, places := there && v.Why == 0, len(twinOf(k, space, slot))
			switch {
			case runs && places == 0:
				seen[nowhere]++
			case runs && places > 1:
				seen[twice]++
			case !runs && places > 0:
				seen[ghost]++
			}
		}
		for p := range k.Procs() {
			_, has := l.Look(p)
			owner, owned := k.Owner(p)
			own := owned && owner == space
			if has && !own {
				seen[alien]++
			}
			if own && !has {
				seen[lost]++
			}
		}
	}
	return seen
}

// asTwin asks that all is as the twin says, and answers what is not right.
func asTwin(t *testing.T, k *kern.Kern) []int {
	t.Helper()
	for space := range k.Spaces() {
		for slot := -2; slot < 19; slot++ {
			if list, wanted := place.Of(k, space, slot), twinOf(k, space, slot); !slices.Equal(list, wanted) {
				t.Fatalf("in %d thread %d is in %+v, not in %+v", space, slot, list, wanted)
			}
		}
	}
	why := twinRight(k)
	if got := place.Right(k); got != (slices.Max(why) == 0) {
		t.Fatalf("it is %t, though %d", got, why)
	}
	return why
}

// tally is in which places threads were, how often it was right, and how often one fault alone made it not right.
type tally struct {
	places [5]int
	why    [reasons]int
}

// add counts what is to be seen of a kernel.
func (c *tally) add(k *kern.Kern, why []int) {
	for space := range k.Spaces() {
		for slot := range 16 {
			for _, x := range place.Of(k, space, slot) {
				c.places[x.Kind]++
			}
		}
	}
	faults, last := 0, allRight
	for n, count := range why {
		if count > 0 {
			faults, last = faults+count, n
		}
	}
	if faults < 2 { // none, or one alone
		c.why[last]++
	}
}

// all goes through all rows of so many numbers from 0 on to below high.
func all(count, high int, each func([]int)) {
	row := make([]int, count)
	for {
		each(row)
		n := 0
		for n < count && row[n] == high-1 {
			row[n] = 0
			n++
		}
		if n == count {
			return
		}
		row[n]++
	}
}

// busy is two programs in which something of each kind comes about soon.
func busy() []api.Program {
	first := program(
		does(spawn(1), on(api.Lock, 0), two(api.Write, 3, 2), on(api.Unlock, 0), reg(api.Sleep, 1), reg(api.Print, 2), on(api.Jump, 1)),
		does(set(2, 1), on(api.Lock, 0), two(api.Store, 3, 2), on(api.Unlock, 0), yield(), on(api.Jump, 0)))
	second := program(does(two(api.Read, 2, 1), set(1, 1), reg(api.Sleep, 1), on(api.Up, 0), on(api.Down, 0), on(api.Jump, 0)))
	second.Prio = 1
	return []api.Program{first, second}
}

// The entries.
func proc(a, b int) api.Step { return api.Step{Kind: api.StepProc, A: a, B: b} }
func tick() api.Step         { return api.Step{Kind: api.StepTick} }
func done(a, b int) api.Step { return api.Step{Kind: api.StepDone, A: a, B: b} }
func preempt(a int) api.Step { return api.Step{Kind: api.StepPreempt, A: a} }
func turn(a int) api.Step    { return api.Step{Kind: api.StepTurn, A: a} }
func share() api.Step        { return api.Step{Kind: api.StepShare} }

// P21.1, P21.2, P3: it is right behind all rows of four entries, from here and there on the way, and all are where the twin says.
func TestShortRuns(t *testing.T) {
	letters := []api.Step{proc(0, 0), proc(1, 1), tick(), done(0, 0), done(1, 1), preempt(0), turn(1), share()}
	list := busy()
	for _, lead := range []int{0, 9, 17, 26, 41, 58, 90} {
		all(4, len(letters), func(row []int) {
			s := system(t, 2, list)
			for n := range lead {
				s.Do([]api.Step{proc(0, 0), proc(1, 0), proc(0, 1), done(1, 0), proc(1, 0), tick()}[n%6])
			}
			for _, n := range row {
				s.Do(letters[n])
				if why := asTwin(t, s.Kern()); slices.Max(why) > 0 {
					t.Fatalf("it is not right behind %d: %d", row, why)
				}
			}
		})
	}
}

// P21.1, P21.2: all rows of four things that are done behind the kernel's back, from here and there on the way.
func TestShortRunsBehind(t *testing.T) {
	list := busy()
	letters := []func(*kern.Kern){
		func(k *kern.Kern) { k.Step(0, 0) },
		func(k *kern.Kern) { k.Take(1) },
		func(k *kern.Kern) { k.Give(1, 0) },
		func(k *kern.Kern) { k.Lib(0).Grant(1) },
		func(k *kern.Kern) { k.Lib(1).Revoke(1) },
		func(k *kern.Kern) { k.Lib(1).Tell([]api.Event{unblocked(0)}) },
		func(k *kern.Kern) { k.Lib(0).Rows().Pick(0) },
		func(k *kern.Kern) { k.Lib(0).Rows().Add(1, 1) },
		func(k *kern.Kern) { k.Lib(1).Space().Run(0, 0) },
	}
	seen := tally{}
	for _, lead := range []int{0, 11, 23, 40, 70} {
		all(4, len(letters), func(row []int) {
			s := system(t, 2, list)
			for n := range lead {
				s.Do([]api.Step{proc(0, 0), proc(1, 0), proc(0, 1), done(1, 0), proc(1, 0), tick()}[n%6])
			}
			for _, n := range row {
				letters[n](s.Kern())
			}
			seen.add(s.Kern(), asTwin(t, s.Kern()))
		})
	}
	seen.ask(t)
}

// ask asks that there were threads in each place, that it was right often, and each thing alone not.
func (c *tally) ask(t *testing.T) {
	t.Helper()
	if slices.Min(c.places[1:]) < 200 || slices.Min(c.why[:]) < 100 {
		t.Errorf("something came about seldom: %+v", *c)
	}
}

// dice is numbers that come in no order, the same ones each time.
type dice uint64

func (d *dice) below(n int) int {
	*d = *d*6364136223846793005 + 1442695040888963407
	return int(uint64(*d) >> 33 % uint64(n))
}

// instr is an instruction of few registers and objects, so that threads meet.
func (d *dice) instr(funcs, length int) api.Instr {
	a, b := 1+d.below(2), 1+d.below(2)
	object := uint64(d.below(2))
	list := []api.Instr{
		set(a, uint64(d.below(3))), yield(), reg(api.Self, a), reg(api.Print, a), reg(api.Sleep, a), reg(api.Detach, a),
		{Op: api.Zero, A: a, N: uint64(d.below(length + 1))}, two(api.Load, a, b), two(api.Store, a, b),
		two(api.Read, a, b), two(api.Write, a, b),
		on(api.Lock, object), on(api.Unlock, object), on(api.Down, object), on(api.Up, object), on(api.Up, object),
		{Op: api.Wait, N: object, C: d.below(2)}, on(api.Signal, object), on(api.Broadcast, object),
		pipe(api.Put, a, object), pipe(api.Get, a, object), spawn(uint64(d.below(funcs))), spawn(uint64(d.below(funcs))), two(api.Join, 2, 1), reg(api.Exit, a),
	}
	return list[d.below(len(list))]
}

// program is one that may be.
func (d *dice) program() api.Program {
	funcs := 1 + d.below(3)
	var code [][]api.Instr
	for range funcs {
		length := 3 + d.below(8)
		list := does(spawn(uint64(d.below(funcs))))
		for len(list) < length {
			list = append(list, d.instr(funcs, length))
		}
		if d.below(3) > 0 { // else they end there
			list = append(list, on(api.Jump, uint64(d.below(2))))
		}
		code = append(code, list)
	}
	p := program(code...)
	p.Prio = d.below(3)
	return p
}

// system is one of programs that came about so.
func (d *dice) system(t *testing.T, procs, spaces int) *sys.Sys {
	t.Helper()
	var list []api.Program
	for range spaces {
		list = append(list, d.program())
	}
	return system(t, procs, list)
}

// step is any entry.
func (d *dice) step(procs, spaces int) api.Step {
	choice := d.below(5)
	switch n := d.below(100); {
	case n < 72:
		return proc(d.below(procs), choice)
	case n < 77:
		return tick()
	case n < 87:
		return done(d.below(spaces), choice)
	case n < 91:
		return preempt(d.below(procs))
	case n < 94:
		return turn(d.below(spaces))
	case n < 98:
		return share()
	}
	return api.Step{Kind: d.below(9), A: d.below(3), B: choice}
}

// P21.1, P21.2, P3: it is right behind each entry of long runs of programs that came about by dice, also with processors that come and go past the sharing.
func TestLongRuns(t *testing.T) {
	d := dice(21)
	seen := tally{}
	for n := range 200 {
		procs, spaces := 1+n%7, 1+n/7%5
		s := d.system(t, procs, spaces)
		for range 400 {
			d.move(s, procs, spaces)
			why := asTwin(t, s.Kern())
			if slices.Max(why) > 0 {
				t.Fatalf("it is not right: %d", why)
			}
			seen.add(s.Kern(), why)
		}
	}
	if slices.Min(seen.places[1:]) < 5000 {
		t.Errorf("some place came about seldom: %+v", seen)
	}
}

// move is any entry, or that a processor comes or goes.
func (d *dice) move(s *sys.Sys, procs, spaces int) {
	switch d.below(20) {
	case 0:
		s.Kern().Take(d.below(procs))
	case 1:
		s.Kern().Give(d.below(procs), d.below(spaces))
	default:
		s.Do(d.step(procs, spaces))
	}
}

// meddle does something to a library behind its kernel's back.
func (d *dice) meddle(l *lib.Lib, procs int) {
	thread := d.below(19) - 2
	switch d.below(8) {
	case 0:
		l.Rows().Pick(d.below(procs))
	case 1:
		l.Rows().Add(d.below(procs), thread)
	case 2:
		l.Tell([]api.Event{{Kind: d.below(6), Thread: thread, Mode: max(0, d.below(12)-3)}})
	case 3:
		l.Grant(d.below(procs))
	case 4:
		l.Revoke(d.below(procs))
	case 5:
		l.Space().Run(thread, 0)
	case 6:
		l.Space().Tick()
	case 7:
		l.Preempt(d.below(procs))
	}
}

// P21.1, P21.2: what was meddled with, behind runs of all lengths, held against the twin.
func TestLongRunsBehind(t *testing.T) {
	d := dice(12)
	seen := tally{}
	for n := range 4000 {
		procs, spaces := 1+n%7, 1+n/7%5
		s := d.system(t, procs, spaces)
		for range d.below(100) {
			d.move(s, procs, spaces)
		}
		for range 4 {
			d.meddle(s.Kern().Lib(d.below(spaces)), procs)
			seen.add(s.Kern(), asTwin(t, s.Kern()))
			d.move(s, procs, spaces)
			seen.add(s.Kern(), asTwin(t, s.Kern()))
		}
	}
	seen.ask(t)
}

// P21.1, P21.2, P3: as many processors and spaces as there may be.
func TestLongRunsOfAll(t *testing.T) {
	d := dice(64)
	for range 2 {
		s := d.system(t, api.MaxProcs, api.MaxSpaces)
		for n := range 3000 {
			d.move(s, api.MaxProcs, api.MaxSpaces)
			if !place.Right(s.Kern()) {
				t.Fatal("it is not right")
			}
			if n%100 == 0 {
				asTwin(t, s.Kern())
			}
		}
	}
}
