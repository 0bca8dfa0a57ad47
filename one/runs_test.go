package one_test

import (
	"math"
	"slices"
	"testing"

	"drawknife/api"
	"drawknife/core"
	"drawknife/inst"
	"drawknife/one"
)

// beside is a model, and beside it each of its spaces alone (chapter 10), with the acts by now.
type beside struct {
	o     *one.One
	alone []*core.Space
	acts  []api.Act
}

func newBeside(t *testing.T, list []api.Program) *beside {
	t.Helper()
	b := &beside{o: begin(t, list...)}
	for _, p := range list {
		s, e := core.New(p)
		if e != api.OK {
			t.Fatalf("%v is %d", p, e)
		}
		b.alone = append(b.alone, s)
	}
	return b
}

// lone is what an act comes to in the spaces that stand alone.
func (b *beside) lone(a api.Act) api.Errno {
	if a.Kind == api.ActTick {
		for _, s := range b.alone {
			s.Tick()
		}
		return api.OK
	}
	if a.Space < 0 || a.Space >= len(b.alone) || a.Kind != api.ActRun && a.Kind != api.ActDone {
		return api.ErrArg
	}
	if a.Kind == api.ActRun {
		_, e := b.alone[a.Space].Run(a.Thread, a.Choice)
		return e
	}
	_, e := b.alone[a.Space].Done(a.Choice)
	return e
}

// act does an act in the model and in the spaces alone, of which one sees the same.
func (b *beside) act(t *testing.T, a api.Act) api.Errno {
	t.Helper()
	b.acts = append(b.acts, a)
	got, wanted := b.o.Do(a), b.lone(a)
	if got != wanted {
		t.Fatalf("by %v: %d, not %d", b.acts, got, wanted)
	}
	for k, s := range b.alone {
		if v := viewOf(b.o, k); !sameView(v, viewAlone(s)) {
			t.Fatalf("by %v space %d is %+v; not %+v", b.acts, k, v, viewAlone(s))
		}
	}
	return got
}

// P11.1: all short runs of two spaces are those of each alone.
func TestShortRuns(t *testing.T) {
	list := []api.Program{reading(), sleeper(2)}
	all := []api.Act{run(0, 0), run(0, 1), run(1, 0), doneBy(0, 1), doneBy(1, 0), tick(), run(2, 0), {}}
	ahead := []api.Act{run(0, 0), run(1, 0)}
	for number := range len(all) * len(all) * len(all) * len(all) {
		b := newBeside(t, list)
		for _, a := range ahead {
			b.act(t, a)
		}
		for n := number; len(b.acts) < len(ahead)+4; n /= len(all) {
			b.act(t, all[n%len(all)])
		}
	}
}

// dice is numbers that come in no order, the same ones each time.
type dice uint64

func (d *dice) below(n int) int {
	*d = *d*6364136223846793005 + 1442695040888963407
	return int(uint64(*d) >> 33 % uint64(n))
}

// one is one of some numbers.
func (d *dice) one(of ...int) int { return of[d.below(len(of))] }

// program is one that may be, of few registers and objects, so that its threads meet.
func (d *dice) program() api.Program {
	p := api.Program{Funcs: make([][]api.Instr, 1+d.below(3)), Words: 3, Mutexes: 1, Conds: 1, Sems: []int{1}, Pipes: []int{1}, Blocks: 3, Prio: d.below(api.MaxPrio + 1)}
	for f := range p.Funcs {
		for len(p.Funcs[f]) < 12 {
			i := api.Instr{Op: 1 + d.below(api.Print), A: d.one(0, 0, 1, 2), B: d.one(0, 0, 1, 2), C: d.one(0, 0, 1, 2), N: uint64(d.one(0, 0, 1, 2, 12))}
			if inst.Sound(p, i) {
				p.Funcs[f] = append(p.Funcs[f], i)
			}
		}
	}
	return p
}

// choice is one that is often small, sometimes at an end.
func (d *dice) choice() int { return d.one(0, 0, 1, 2, -1, -2, math.MaxInt, math.MinInt) }

// act is one: mostly of a thread that may run.
func (d *dice) act(o *one.One, spaces int) api.Act {
	space := d.below(spaces)
	ready := o.Ready(space)
	switch k := d.below(20); {
	case k < 14 && len(ready) > 0:
		return runBy(space, ready[d.below(len(ready))], d.choice())
	case k == 14:
		return runBy(space, d.one(0, 0, 1, 1, 2, 15, 16, -1), d.choice())
	case k == 15:
		return api.Act{Kind: d.below(6) - 1, Space: d.below(spaces+2) - 1, Thread: d.below(3), Choice: d.choice()}
	case k < 18:
		return doneBy(space, d.choice())
	}
	return tick()
}

// P11.1: long runs of one to MaxSpaces spaces are those of each alone; each error comes about.
func TestLongRuns(t *testing.T) {
	d := dice(1)
	came := map[api.Errno]int{}
	for number := range 200 {
		var list []api.Program
		for range number%api.MaxSpaces + 1 {
			list = append(list, d.program())
		}
		b := newBeside(t, list)
		for range 150 {
			came[b.act(t, d.act(b.o, len(list)))]++
		}
	}
	for _, e := range []api.Errno{api.OK, api.ErrArg, api.ErrNone, api.ErrBusy} {
		if came[e] < 100 {
			t.Errorf("%d came %d times", e, came[e])
		}
	}
}

// apart is acts in another order: between two moments all of the last space come first.
func apart(list []api.Act) []api.Act {
	var all, between []api.Act
	for _, a := range append(list, tick()) {
		if a.Kind != api.ActTick {
			between = append(between, a)
			continue
		}
		slices.SortStableFunc(between, func(a, b api.Act) int { return b.Space - a.Space })
		all, between = append(append(all, between...), a), nil
	}
	return all[:len(all)-1]
}

// What follows: what a space does hangs on its own acts and the clock's alone, not on when others act between.
func TestApart(t *testing.T) {
	d := dice(2)
	for range 200 {
		var list []api.Program
		for range 3 {
			list = append(list, d.program())
		}
		o, other := begin(t, list...), begin(t, list...)
		var done []api.Act
		for range 100 {
			a := d.act(o, len(list))
			if o.Do(a) == api.OK {
				done = append(done, a)
			}
		}
		acts(t, other, apart(done)...)
		if !slices.EqualFunc(whole(o), whole(other), sameView) {
			t.Fatalf("of %v by %v: %+v, not %+v", list, done, whole(other), whole(o))
		}
	}
}
