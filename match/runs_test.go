package match_test

import (
	"slices"
	"testing"

	"drawknife/api"
	"drawknife/core"
	"drawknife/match"
	"drawknife/one"
	"drawknife/sys"
)

// sameTwin is what the chapter says of two lists of records, told anew.
func sameTwin(a, b []api.Record) bool {
	count := 0
	for n := range min(len(a), len(b)) {
		x, y := a[n], b[n]
		if x.Thread == y.Thread && x.Op == y.Op && x.X == y.X && x.Y == y.Y && x.Result == y.Result && x.End == y.End {
			count++
		}
	}
	return count == len(a) && count == len(b)
}

// replayTwin is what it says of a model behind acts: it answers the spaces, each on its own, how many acts were done, and the error.
func replayTwin(list []api.Program, acts []api.Act) ([]*core.Space, int, api.Errno) {
	if len(list) == 0 || len(list) > 8 {
		return nil, 0, 1
	}
	var spaces []*core.Space
	for _, p := range list {
		s, e := core.New(p)
		if e != 0 {
			return nil, 0, e
		}
		spaces = append(spaces, s)
	}
	count := 0
	for count < len(acts) {
		if e := actTwin(spaces, acts[count]); e != 0 {
			return spaces, count, e
		}
		count++
	}
	return spaces, count, 0
}

// actTwin is an act in spaces.
func actTwin(spaces []*core.Space, a api.Act) api.Errno {
	if a.Kind == 3 {
		for _, s := range spaces {
			s.Tick()
		}
		return 0
	}
	if a.Kind != 1 && a.Kind != 2 || a.Space < 0 || a.Space >= len(spaces) {
		return 1
	}
	if a.Kind == 2 {
		_, e := spaces[a.Space].Done(a.Choice)
		return e
	}
	_, e := spaces[a.Space].Run(a.Thread, a.Choice)
	return e
}

// Why nothing holds.
const (
	itHolds = iota
	byCount
	byProgram
	byAct
	byRecords
	byMemory
	reasons
)

// holdsTwin is what it says of a system: does it hold, and why not?
func holdsTwin(list []api.Program, s *sys.Sys) int {
	if len(list) != s.Kern().Spaces() {
		return byCount
	}
	spaces, count, _ := replayTwin(list, s.Log())
	if spaces == nil {
		return byProgram
	}
	if count < len(s.Log()) {
		return byAct
	}
	why := itHolds
	for n, space := range spaces {
		own := s.Kern().Lib(n).Space()
		if !sameTwin(space.Records(), own.Records()) {
			return byRecords
		}
		if !slices.Equal(space.Memory(), own.Memory()) || !slices.Equal(space.Ready(), own.Ready()) {
			why = byMemory
		}
	}
	return why
}

// replaysAsTwin asks that a model by acts is what the twin is.
func replaysAsTwin(t *testing.T, list []api.Program, acts []api.Act) (int, api.Errno) {
	t.Helper()
	o, count, e := match.Replay(list, acts)
	spaces, wanted, f := replayTwin(list, acts)
	if count != wanted || e != f || (o == nil) != (spaces == nil) {
		t.Fatalf("Replay(%v, %+v) is %v, %d, %d; not %d, %d", list, acts, o, count, e, wanted, f)
	}
	for n, s := range spaces {
		if !slices.Equal(o.Records(n), s.Records()) || !slices.Equal(o.Memory(n), s.Memory()) || !slices.Equal(o.Ready(n), s.Ready()) {
			t.Fatalf("by %+v space %d shows %+v, not %+v", acts, n, o.Records(n), s.Records())
		}
	}
	return count, e
}

// all goes through all rows of so many numbers from 0 on to below high.
func all(count, high int, each func([]int)) {
	row := make([]int, count)
	for {
		each(row)
		n := 0
		for n < count && row[n] == high-1 {
			row[n] = 0
			n++
		}
		if n == count {
			return
		}
		row[n]++
	}
}

// busy is two programs in which something of each kind comes about soon.
func busy() []api.Program {
	a := program(
		does(spawn(1), on(api.Lock, 0), two(api.Write, 3, 2), on(api.Unlock, 0), reg(api.Sleep, 1), reg(api.Print, 2), on(api.Jump, 1)),
		does(set(2, 1), on(api.Lock, 0), two(api.Store, 3, 2), on(api.Unlock, 0), yield(), on(api.Jump, 0)))
	b := program(does(two(api.Read, 2, 1), set(1, 1), reg(api.Sleep, 1), on(api.Up, 0), on(api.Down, 0), on(api.Jump, 0)))
	b.Prio = 1
	return []api.Program{a, b}
}

// P20.1: Replay by all rows of five acts, held against the twin.
func TestReplayShortRuns(t *testing.T) {
	letters := []api.Act{ran(0, 0), ran(0, 1), ran(1, 0), wasDone(0, 0), wasDone(1, 1), ticked(), {Kind: 4}}
	list := busy()
	all(5, len(letters), func(row []int) {
		var acts []api.Act
		for _, n := range row {
			acts = append(acts, letters[n])
		}
		replaysAsTwin(t, list, acts)
	})
}

// P20.1: Same of all short lists of few records, held against the twin.
func TestSameShortLists(t *testing.T) {
	letters := []api.Record{{}, {End: true}, {X: 1}, {Result: 1}}
	var lists [][]api.Record
	for count := range 4 {
		all(count, len(letters), func(row []int) {
			var list []api.Record
			for _, n := range row {
				list = append(list, letters[n])
			}
			lists = append(lists, list)
		})
	}
	for m, a := range lists {
		for n, b := range lists {
			if got := match.Same(a, b); got != (m == n) || got != sameTwin(a, b) {
				t.Fatalf("Same(%v, %v) is %t", a, b, got)
			}
		}
	}
}

// P20.1: a system holds behind all rows of three entries, from here and there on the way, and by other lists just as the twin says.
func TestHoldsShortRuns(t *testing.T) {
	letters := []api.Step{proc(0, 0), proc(1, 1), tick(), done(0, 0), done(1, 1), preempt(0), share()}
	list := busy()
	other := busy()
	other[1].Funcs[0][0] = set(1, 1)
	for _, lead := range []int{0, 9, 17, 26, 41, 58, 90} {
		all(3, len(letters), func(row []int) {
			s := begin(t, 2, list)
			for n := range lead {
				s.Do([]api.Step{proc(0, 0), proc(1, 0), proc(0, 1), done(1, 0), proc(1, 0), tick()}[n%6])
			}
			for _, n := range row {
				s.Do(letters[n])
				holds(t, list, s)
				if got, why := match.Holds(other, s), holdsTwin(other, s); got != (why == itHolds) {
					t.Fatalf("by another list it is %t, not %d, behind %+v", got, why, s.Log())
				}
			}
		})
	}
}

// dice is numbers that come in no order, the same ones each time.
type dice uint64

func (d *dice) below(n int) int {
	*d = *d*6364136223846793005 + 1442695040888963407
	return int(uint64(*d) >> 33 % uint64(n))
}

// instr is an instruction of few registers and objects, so that threads meet.
func (d *dice) instr(funcs, length int) api.Instr {
	a, b := 1+d.below(2), 1+d.below(2)
	object := uint64(d.below(2))
	list := []api.Instr{
		set(a, uint64(d.below(3))), yield(), reg(api.Self, a), reg(api.Print, a), reg(api.Sleep, a), reg(api.Detach, a),
		{Op: api.Zero, A: a, N: uint64(d.below(length + 1))}, two(api.Load, a, b), two(api.Store, a, b),
		two(api.Read, a, b), two(api.Write, a, b),
		on(api.Lock, object), on(api.Unlock, object), on(api.Down, object), on(api.Up, object), on(api.Up, object),
		{Op: api.Wait, N: object, C: d.below(2)}, on(api.Signal, object), on(api.Broadcast, object),
		pipe(api.Put, a, object), pipe(api.Get, a, object), spawn(uint64(d.below(funcs))), spawn(uint64(d.below(funcs))), two(api.Join, 2, 1), reg(api.Exit, a),
	}
	return list[d.below(len(list))]
}

// program is one that may be.
func (d *dice) program() api.Program {
	funcs := 1 + d.below(3)
	var code [][]api.Instr
	for range funcs {
		length := 3 + d.below(8)
		list := does(spawn(uint64(d.below(funcs))))
		for len(list) < length {
			list = append(list, d.instr(funcs, length))
		}
		if d.below(3) > 0 { // else they end there
			list = append(list, on(api.Jump, uint64(d.below(2))))
		}
		code = append(code, list)
	}
	p := program(code...)
	p.Prio = d.below(3)
	return p
}

// list is programs that may be.
func (d *dice) list(spaces int) []api.Program {
	var list []api.Program
	for range spaces {
		list = append(list, d.program())
	}
	return list
}

// other is a list that is another than one, by one thing: often by one that is not seen, or later.
func (d *dice) other(list []api.Program) []api.Program {
	at := d.below(len(list))
	p := list[at]
	p.Funcs = slices.Clone(p.Funcs)
	f := d.below(len(p.Funcs))
	p.Funcs[f] = slices.Clone(p.Funcs[f])
	i := d.below(len(p.Funcs[f]))
	switch n := d.below(20); {
	case n < 8:
		p.Funcs[f][i] = d.instr(len(p.Funcs), len(p.Funcs[f]))
	case n < 12:
		p.Funcs[f] = slices.Delete(p.Funcs[f], i, i+1)
	case n < 14:
		p.Words = d.below(4)
	case n < 15:
		p.Words = -1
	case n < 16:
		p.Funcs[f][i].Op = 0
	case n < 17:
		return list[:at]
	case n < 18:
		return append(slices.Clone(list), p)
	case n < 19:
		p.Sems, p.Blocks, p.Prio = []int{d.below(2), 1}, 1+d.below(3), d.below(api.MaxPrio)
	}
	return with(list, at, p)
}

// step is any entry.
func (d *dice) step(procs, spaces int) api.Step {
	choice := d.below(5)
	switch n := d.below(100); {
	case n < 72:
		return proc(d.below(procs), choice)
	case n < 77:
		return tick()
	case n < 87:
		return done(d.below(spaces), choice)
	case n < 91:
		return preempt(d.below(procs))
	case n < 94:
		return turn(d.below(spaces))
	case n < 98:
		return share()
	}
	return api.Step{Kind: d.below(9), A: d.below(3), B: choice}
}

// P20.1: systems of programs that came about by dice hold behind long runs; by other lists just as the twin says.
func TestHoldsLongRuns(t *testing.T) {
	d := dice(20)
	var seen [reasons]int
	for n := range 400 {
		procs, spaces := 1+n%7, 1+n/7%5
		list := d.list(spaces)
		s := begin(t, procs, list)
		for k := range 400 {
			s.Do(d.step(procs, spaces))
			if k%40 != 0 {
				continue
			}
			holds(t, list, s)
			other := d.other(list)
			why := holdsTwin(other, s)
			if got := match.Holds(other, s); got != (why == itHolds) {
				t.Fatalf("by another list it is %t, not %d, behind %+v", got, why, s.Log())
			}
			seen[why]++
			replaysAsTwin(t, other, s.Log())
		}
		holds(t, list, s)
	}
	if slices.Min(seen[:]) < 20 {
		t.Errorf("something came about seldom: %d", seen)
	}
}

// P20.1: as many processors and spaces as there may be.
func TestHoldsLongRunsOfAll(t *testing.T) {
	d := dice(64)
	for range 3 {
		list := d.list(api.MaxSpaces)
		s := begin(t, api.MaxProcs, list)
		for range 3000 {
			s.Do(d.step(api.MaxProcs, api.MaxSpaces))
		}
		holds(t, list, s)
		replaysAsTwin(t, list, s.Log())
	}
}

// act is any act, mostly one that may be done now.
func (d *dice) act(o *one.One, spaces int) api.Act {
	space := d.below(spaces)
	may := o.Ready(space)
	switch n := d.below(100); {
	case n < 75 && len(may) > 0:
		return ranBy(space, may[d.below(len(may))], d.below(5))
	case n < 88:
		return ticked()
	case n < 92:
		return wasDone(space, d.below(5))
	case n < 97:
		return ranBy(space, d.below(4), d.below(5))
	}
	return api.Act{Kind: d.below(5), Space: d.below(spaces + 1), Thread: d.below(api.MaxThreads), Choice: d.below(3)}
}

// acts is acts of a list's model, of which no error is among the first hundred.
func (d *dice) acts(list []api.Program) []api.Act {
	lead, _ := one.New(list)
	var acts []api.Act
	for range 200 {
		a := d.act(lead, len(list))
		if e := lead.Do(a); e == api.OK || len(acts) > 100 {
			acts = append(acts, a)
		}
	}
	return acts
}

// P20.1: Replay by long rows of acts, the first that has an error somewhere among them, held against the twin.
func TestReplayLongRuns(t *testing.T) {
	d := dice(7)
	var seen [12]int
	for n := range 600 {
		list := d.list(1 + n%api.MaxSpaces)
		acts := d.acts(list)
		for _, part := range [][]api.Act{acts[:60], acts} {
			_, e := replaysAsTwin(t, list, part)
			seen[e]++
		}
	}
	if min(seen[api.ErrArg], seen[api.ErrNone], seen[api.ErrBusy], seen[api.OK]) < 20 {
		t.Errorf("something came about seldom: %d", seen)
	}
}
