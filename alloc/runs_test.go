package alloc_test

import (
	"math"
	"slices"
	"testing"

	"drawknife/alloc"
	"drawknife/api"
	"drawknife/kern"
)

// twin is what the chapter says of sharing, told anew on a kernel of its own: each processor goes to who is first of all that want one more.
type twin struct {
	k *kern.Kern
}

// owners is whose the processors are, -1: nobody's.
func owners(k *kern.Kern) []int {
	var list []int
	for proc := range k.Procs() {
		space, had := k.Owner(proc)
		if !had {
			space = -1
		}
		list = append(list, space)
	}
	return list
}

// counts is how many each space has.
func (x twin) counts() []int {
	list := make([]int, x.k.Spaces())
	for _, space := range owners(x.k) {
		if space >= 0 {
			list[space]++
		}
	}
	return list
}

// first is who is given one more, -1: nobody.
func (x twin) first(demand, has, prio []int, turn int) int {
	best := -1
	spaces := len(demand)
	for ahead := range spaces {
		n := ((turn%spaces+spaces)%spaces + ahead) % spaces
		if has[n] >= demand[n] {
			continue
		}
		if best < 0 || prio[n] > prio[best] || prio[n] == prio[best] && has[n] < has[best] {
			best = n
		}
	}
	return best
}

// targets is false, where there are none.
func (x twin) targets(prio []int, turn int) ([]int, bool) {
	demand := x.k.Demand()
	wrong := func(p int) bool { return p < 0 || p > 7 }
	if len(prio) != len(demand) || slices.ContainsFunc(prio, wrong) {
		return nil, false
	}
	has := make([]int, len(demand))
	for range x.k.Procs() {
		if n := x.first(demand, has, prio, turn); n >= 0 {
			has[n]++
		}
	}
	return has, true
}

// share takes and gives one by one, and is how often it did.
func (x twin) share(prio []int, turn int) int {
	targets, _ := x.targets(prio, turn)
	count := 0
	for space, target := range targets {
		kept := 0
		for proc, owner := range owners(x.k) {
			if owner != space {
				continue
			}
			kept++
			if kept > target {
				x.k.Take(proc)
				count++
			}
		}
	}
	for space, target := range targets {
		for x.counts()[space] < target {
			x.k.Give(slices.Index(owners(x.k), -1), space)
			count++
		}
	}
	return count
}

// fair: has each just its target?
func (x twin) fair(prio []int, turn int) bool {
	targets, ok := x.targets(prio, turn)
	return ok && slices.Equal(targets, x.counts())
}

// settle has a kernel's processors be those of owners.
func settle(k *kern.Kern, to []int) {
	for proc, owner := range to {
		k.Take(proc)
		if owner >= 0 {
			k.Give(proc, owner)
		}
	}
}

// all goes through all rows of so many numbers from low on to below high.
func all(count, low, high int, each func([]int)) {
	row := alike(count, low)
	for {
		each(row)
		n := 0
		for n < count && row[n] == high-1 {
			row[n] = low
			n++
		}
		if n == count {
			return
		}
		row[n]++
	}
}

// P18.1: all ways in which up to four processors are those of up to three spaces that want up to three, by two priorities and all turns, held against the twin.
func TestAllWays(t *testing.T) {
	for spaces := 1; spaces <= 3; spaces++ {
		for procs := 1; procs <= 5-spaces/2; procs++ {
			all(spaces, 0, 4, func(demand []int) {
				k := wanting(t, procs, demand...)
				x := twin{wanting(t, procs, demand...)}
				all(procs, -1, spaces, func(had []int) {
					all(spaces, 0, 2, func(prio []int) {
						for turn := range spaces {
							heldFrom(t, k, x, had, prio, turn)
						}
					})
				})
			})
		}
	}
}

// heldFrom asks that from where processors are those of someone both come to the same.
func heldFrom(t *testing.T, k *kern.Kern, x twin, had, prio []int, turn int) {
	t.Helper()
	settle(k, had)
	settle(x.k, had)
	fair, is := x.fair(prio, turn), alloc.Fair(k, prio, turn)
	count, n := x.share(prio, turn), alloc.Share(k, prio, turn)
	if fair != is || count != n || !slices.Equal(owners(k), owners(x.k)) || !alloc.Fair(k, prio, turn) || fair != (n == 0) {
		t.Fatalf("%d of %d by %d, %d come to %t, %d, %d; not %t, %d, %d", had, k.Demand(), prio, turn, is, n, owners(k), fair, count, owners(x.k))
	}
}

// dice is numbers that come in no order, the same ones each time.
type dice uint64

func (d *dice) below(n int) int {
	*d = *d*6364136223846793005 + 1442695040888963407
	return int(uint64(*d) >> 33 % uint64(n))
}

// instr is an instruction of few registers and objects, so that threads meet.
func (d *dice) instr(funcs, length int) api.Instr {
	a, b := 1+d.below(2), 1+d.below(2)
	object := uint64(d.below(2))
	list := []api.Instr{
		set(a, uint64(d.below(3))), yield(), one(api.Self, a), one(api.Print, a), one(api.Sleep, a),
		{Op: api.Zero, A: a, N: uint64(d.below(length + 1))}, two(api.Load, a, b), two(api.Store, a, b),
		two(api.Read, a, b), two(api.Write, a, b),
		on(api.Lock, object), on(api.Unlock, object), on(api.Down, object), on(api.Up, object), on(api.Up, object),
		pipe(api.Put, a, object), pipe(api.Get, a, object), spawn(uint64(d.below(funcs))), spawn(uint64(d.below(funcs))), two(api.Join, 2, 1), one(api.Exit, a),
	}
	return list[d.below(len(list))]
}

// program is one that may be.
func (d *dice) program() api.Program {
	funcs := 1 + d.below(3)
	var all [][]api.Instr
	for range funcs {
		length := 3 + d.below(8)
		list := does(spawn(uint64(d.below(funcs))))
		for len(list) < length {
			list = append(list, d.instr(funcs, length))
		}
		if d.below(3) > 0 { // else they end there
			list = append(list, on(api.Jump, uint64(d.below(2))))
		}
		all = append(all, list)
	}
	return program(all...)
}

// prio is priorities of so many spaces, alike or not; now and then such as may not be.
func (d *dice) prio(spaces int) []int {
	high := []int{1, 2, 8}[d.below(3)]
	count := spaces
	if d.below(12) == 0 {
		count = d.below(10)
	}
	list := make([]int, count)
	for n := range list {
		list[n] = d.below(high)
	}
	if count > 0 && d.below(12) == 0 {
		wrong := notPrio()
		list[d.below(count)] = wrong[d.below(len(wrong))]
	}
	return list
}

// turn is that of any space, or any other number.
func (d *dice) turn() int {
	list := append(ends(), 2, 3, 4, 5, 6, 7, 8, 9, -2, -3)
	return list[d.below(len(list))]
}

// both is a kernel and its twin.
type both struct {
	k *kern.Kern
	x twin
}

// step does any act but a sharing with both kernels.
func (b both) step(d *dice) {
	proc, space, choice := d.below(b.k.Procs()), d.below(b.k.Spaces()), d.below(4)
	what := d.below(100)
	for _, k := range []*kern.Kern{b.k, b.x.k} {
		switch {
		case what < 1:
			k.Give(proc, space)
		case what < 2:
			k.Take(proc)
		case what < 4:
			k.Preempt(proc)
		case what < 8:
			k.Tick()
		case what < 16:
			k.Done(space, choice)
		default:
			k.Step(proc, choice)
		}
	}
}

// tally is how often what came about.
type tally struct {
	none, still, took, gave, all, want, left int
}

// share shares with both, and asks that they come to the same, and for what follows from that.
func (b both) share(t *testing.T, prio []int, turn int, seen *tally) {
	t.Helper()
	ahead, freeAhead := shows(b.k), len(b.k.Free())
	wanted, ok := b.x.targets(prio, turn)
	targets(t, b.k, prio, turn, wanted...)
	fair(t, b.k, prio, turn, b.x.fair(prio, turn))
	count := b.x.share(prio, turn)
	shares(t, b.k, prio, turn, count)
	still(t, b.k, shows(b.x.k))
	fair(t, b.k, prio, turn, ok)
	if count == 0 {
		still(t, b.k, ahead)
	}
	wants := false
	for space, n := range b.k.Demand() {
		wants = wants || n > b.x.counts()[space]
	}
	free := len(b.k.Free())
	if ok && wants && free > 0 {
		t.Fatalf("%d of %d are free", b.k.Free(), owners(b.k))
	}
	seen.add(ok, count, freeAhead, free, wants)
}

// add counts a sharing.
func (c *tally) add(ok bool, count, freeAhead, free int, wants bool) {
	one := func(n *int, is bool) {
		if is {
			*n++
		}
	}
	one(&c.none, !ok)
	one(&c.still, ok && count == 0)
	one(&c.took, ok && free > freeAhead)
	one(&c.gave, ok && free < freeAhead)
	one(&c.all, ok && count > freeAhead+1 && free == 0)
	one(&c.want, ok && wants)
	one(&c.left, ok && free > 0)
}

// ask asks that all came about often.
func (c *tally) ask(t *testing.T) {
	t.Helper()
	few := []int{c.none, c.still, c.took, c.gave, c.all, c.want, c.left}
	if slices.Min(few) < 200 {
		t.Errorf("something came about seldom: %+v", *c)
	}
}

// run is two kernels of the same programs.
func (d *dice) run(t *testing.T, procs, spaces int) both {
	t.Helper()
	var list []api.Program
	for range spaces {
		list = append(list, d.program())
	}
	return both{begin(t, procs, list...), twin{begin(t, procs, list...)}}
}

// P18.1: long runs of programs that came about by dice, with sharings on the way, held against the twin, and against what follows.
func TestLongRuns(t *testing.T) {
	d := dice(18)
	seen := tally{}
	for run := range 400 {
		spaces := 1 + run%5
		b := d.run(t, 1+run/5%9, spaces)
		for range 40 {
			b.share(t, d.prio(spaces), d.turn(), &seen)
			for range 1 + d.below(60) {
				b.step(&d)
			}
		}
	}
	seen.ask(t)
}

// P18.1: as many processors and spaces as there may be.
func TestLongRunsOfAll(t *testing.T) {
	d := dice(64)
	seen := tally{}
	for range 6 {
		b := d.run(t, api.MaxProcs, api.MaxSpaces)
		for range 60 {
			b.share(t, d.prio(api.MaxSpaces), d.turn(), &seen)
			for range 400 {
				b.step(&d)
			}
		}
	}
}

// P18.1: what is answered hangs on nothing that was asked ahead: two kernels in the same state come to the same, whatever others were asked.
func TestNothingIsKept(t *testing.T) {
	a, b := wanting(t, 5, 3, 4, 2), wanting(t, 5, 3, 4, 2)
	other := wanting(t, 64, 16, 16)
	alloc.Share(other, []int{7, 0}, 1)
	alloc.Targets(a, []int{7, 7, 0}, 2)
	alloc.Fair(a, []int{0, 0}, math.MinInt)
	shares(t, a, alike(3, 0), 1, 5)
	shares(t, b, alike(3, 0), 1, 5)
	still(t, a, shows(b))
	has(t, other, 0, upTo(0, 16)...)
	has(t, other, 1, upTo(16, 32)...)
}
