package alloc_test

import (
	"math"
	"slices"
	"testing"

	"drawknife/alloc"
	"drawknife/api"
	"drawknife/kern"
)

// P18.1: Targets: round and round among those that want more, no more than they want, and no more than there are.
func TestTargets(t *testing.T) {
	for _, c := range []struct {
		procs          int
		demand, wanted []int
	}{
		{1, []int{0}, []int{0}},
		{1, []int{1}, []int{1}},
		{1, []int{5}, []int{1}},
		{3, []int{2}, []int{2}},
		{64, []int{16}, []int{16}},
		{6, []int{16, 16, 0}, []int{3, 3, 0}},
		{7, []int{1, 9, 2}, []int{1, 4, 2}},
		{2, []int{3, 3, 3}, []int{1, 1, 0}},
		{5, []int{0, 0, 0}, []int{0, 0, 0}},
		{5, []int{4, 1}, []int{4, 1}},
		{5, []int{16, 2}, []int{3, 2}},
		{64, []int{16, 16, 16, 16, 16, 16, 16, 16}, []int{8, 8, 8, 8, 8, 8, 8, 8}},
		{64, []int{1, 16, 1, 16, 1, 16, 1, 16}, []int{1, 15, 1, 15, 1, 15, 1, 15}},
		{63, []int{1, 16, 1, 16, 1, 16, 1, 16}, []int{1, 15, 1, 15, 1, 15, 1, 14}},
		{3, []int{1, 1, 1, 1, 1, 1, 1, 1}, []int{1, 1, 1, 0, 0, 0, 0, 0}},
	} {
		k := wanting(t, c.procs, c.demand...)
		targets(t, k, alike(len(c.demand), 0), 0, c.wanted...)
		targets(t, k, alike(len(c.demand), 7), 0, c.wanted...)
	}
}

// P18.1: Targets: from the highest priority on, and beginning with space turn.
func TestTargetsByPriorityAndTurn(t *testing.T) {
	k := wanting(t, 5, 4, 4, 4)
	for _, c := range []struct {
		prio   []int
		turn   int
		wanted []int
	}{
		{[]int{0, 0, 0}, 0, []int{2, 2, 1}},
		{[]int{0, 0, 0}, 1, []int{1, 2, 2}},
		{[]int{0, 0, 0}, 2, []int{2, 1, 2}},
		{[]int{0, 0, 0}, 3, []int{2, 2, 1}},
		{[]int{0, 0, 0}, -1, []int{2, 1, 2}},
		{[]int{0, 0, 0}, -2, []int{1, 2, 2}},
		{[]int{0, 0, 0}, -3, []int{2, 2, 1}},
		{[]int{0, 0, 0}, math.MaxInt, []int{1, 2, 2}},     // leaves 1
		{[]int{0, 0, 0}, math.MaxInt - 1, []int{2, 2, 1}}, // leaves 0
		{[]int{0, 0, 0}, math.MinInt, []int{1, 2, 2}},     // leaves 1
		{[]int{0, 0, 0}, math.MinInt + 1, []int{2, 1, 2}}, // leaves 2
		{[]int{0, 0, 0}, 1 << 32, []int{1, 2, 2}},
		{[]int{7, 0, 0}, 0, []int{4, 1, 0}},
		{[]int{7, 0, 0}, 1, []int{4, 1, 0}},
		{[]int{7, 0, 0}, 2, []int{4, 0, 1}},
		{[]int{0, 1, 2}, 0, []int{0, 1, 4}},
		{[]int{2, 1, 0}, 2, []int{4, 1, 0}},
		{[]int{1, 0, 1}, 0, []int{3, 0, 2}},
		{[]int{1, 0, 1}, 1, []int{2, 0, 3}},
		{[]int{0, 7, 0}, 0, []int{1, 4, 0}},
		{[]int{0, 7, 0}, 1, []int{0, 4, 1}},
	} {
		targets(t, k, c.prio, c.turn, c.wanted...)
	}
}

// P18.1: Targets: those of now, by who may run now; who has which is nothing to them.
func TestTargetsAreThoseOfNow(t *testing.T) {
	k := wanting(t, 4, 3, 3)
	prio := alike(2, 0)
	targets(t, k, prio, 0, 2, 2)
	gives(t, k, 1, 0, 1, 2, 3)
	targets(t, k, prio, 0, 2, 2)
	k.Take(3)
	gives(t, k, 0, 3)
	targets(t, k, prio, 0, 2, 2)
	leaves := program(append(does(spawn(1), spawn(1), spawn(1)), pipe(api.Get, 2, 0)), does(one(api.Exit, 1)))
	k = begin(t, 4, leaves, crew(1))
	for _, c := range []struct{ slot, first int }{{0, 2}, {0, 3}, {0, 3}, {0, 3}, {1, 2}, {2, 1}, {3, 0}} {
		runs(t, k, 0, c.slot)
		targets(t, k, prio, 0, c.first, 1)
	}
}

// P18.1: no targets of rows of priorities that are not as long as there are spaces: nothing is fair, and nothing is done.
func TestWrongLengths(t *testing.T) {
	for _, spaces := range []int{1, 2, 3, 7, 8} {
		k := wanting(t, 5, alike(spaces, 2)...)
		refusesAll := func() {
			t.Helper()
			for _, count := range []int{0, 1, 2, 3, 4, 7, 8, 9, 16, 64, 256 + spaces} {
				for _, turn := range ends() {
					if count != spaces {
						mayNot(t, k, alike(count, 0), turn)
					}
				}
			}
			mayNot(t, k, nil, 0)
		}
		refusesAll()
		free(t, k, 0, 1, 2, 3, 4)
		gives(t, k, spaces-1, 0, 1, 2, 3, 4)
		refusesAll()
		has(t, k, spaces-1, 0, 1, 2, 3, 4)
		alloc.Share(k, alike(spaces, 0), 0)
		refusesAll()
		fair(t, k, alike(spaces, 0), 0, true)
	}
}

// P18.1: no targets by what is no priority, wherever it stands.
func TestWrongPriorities(t *testing.T) {
	k := wanting(t, 3, 2, 0, 2, 2)
	for range 2 {
		for _, wrong := range notPrio() {
			for n := range 4 {
				prio := []int{7, 0, 3, 7}
				prio[n] = wrong
				mayNot(t, k, prio, n)
			}
			mayNot(t, k, alike(4, wrong), 0)
		}
		alloc.Share(k, alike(4, 7), 0)
	}
	fair(t, k, alike(4, 7), 0, true)
}

// P18.1: where there are no spaces there are no targets; nothing is done, and all is fair, whatever the priorities.
func TestNoSpaces(t *testing.T) {
	for _, k := range []*kern.Kern{nil, new(kern.Kern)} {
		for _, turn := range append(ends(), 2, 3, 8, 64, -64) {
			for _, prio := range [][]int{nil, {}, {0}, {7}, {8}, {-1}, {0, 0}, {math.MaxInt}, {1 << 32}, alike(8, 0), alike(9, 0), alike(64, 7)} {
				targets(t, k, prio, turn)
				fair(t, k, prio, turn, true)
				shares(t, k, prio, turn, 0)
			}
		}
	}
}

// P18.1: Share: of a kernel whose processors are all free each space, in order, is given the least that is free, all that it should have ahead of the next one.
func TestShareOfFree(t *testing.T) {
	k := wanting(t, 7, 1, 9, 2)
	fair(t, k, alike(3, 0), 0, false)
	shares(t, k, alike(3, 0), 0, 7)
	has(t, k, 0, 0)
	has(t, k, 1, 1, 2, 3, 4)
	has(t, k, 2, 5, 6)
	free(t, k)
	fair(t, k, alike(3, 0), 0, true)

	k = wanting(t, 6, 2, 2)
	shares(t, k, alike(2, 0), 1, 4)
	has(t, k, 0, 0, 1)
	has(t, k, 1, 2, 3)
	free(t, k, 4, 5)

	k = wanting(t, 3, 16, 16)
	shares(t, k, []int{0, 7}, 0, 3)
	has(t, k, 0)
	has(t, k, 1, 0, 1, 2)

	k = wanting(t, 64, alike(8, 16)...)
	shares(t, k, alike(8, 3), 5, 64)
	for space := range 8 {
		has(t, k, space, upTo(8*space, 8*space+8)...)
	}

	k = wanting(t, 4, 0, 0)
	fair(t, k, alike(2, 0), 0, true)
	shares(t, k, alike(2, 0), 0, 0)
	free(t, k, 0, 1, 2, 3)
}

// P18.1: Share: what is free has holes, and those that a space has stay where they are.
func TestShareFillsHoles(t *testing.T) {
	k := wanting(t, 8, 3, 4)
	gives(t, k, 1, 1, 6)
	gives(t, k, 0, 4)
	shares(t, k, alike(2, 0), 0, 4)
	has(t, k, 0, 0, 2, 4)
	has(t, k, 1, 1, 3, 5, 6)
	free(t, k, 7)
}

// P18.1: Share: the greatest are taken from who has more, and go to who has fewer.
func TestShareTakesTheGreatest(t *testing.T) {
	k := wanting(t, 6, 2, 4)
	gives(t, k, 0, 5, 3, 0, 1, 4, 2)
	fair(t, k, alike(2, 0), 0, false)
	shares(t, k, alike(2, 0), 0, 8)
	has(t, k, 0, 0, 1)
	has(t, k, 1, 2, 3, 4, 5)

	k = wanting(t, 6, 4, 2) // who has fewer comes ahead of who has more
	gives(t, k, 1, 0, 1, 2, 3, 4, 5)
	shares(t, k, alike(2, 0), 0, 8)
	has(t, k, 0, 2, 3, 4, 5)
	has(t, k, 1, 0, 1)

	k = wanting(t, 6, 1, 1, 4) // two have more, and each loses its own greatest
	gives(t, k, 0, 0, 3, 5)
	gives(t, k, 1, 1, 2, 4)
	shares(t, k, alike(3, 0), 0, 8)
	has(t, k, 0, 0)
	has(t, k, 1, 1)
	has(t, k, 2, 2, 3, 4, 5)

	k = wanting(t, 6, 1, 0) // what is too many stays free, where nobody wants it
	gives(t, k, 0, 2, 3)
	gives(t, k, 1, 0, 5)
	shares(t, k, alike(2, 0), 0, 3)
	has(t, k, 0, 2)
	has(t, k, 1)
	free(t, k, 0, 1, 3, 4, 5)
}

// P18.1: Share: nothing is taken for another space to be had by itself once more: all are taken ahead of the first that is given.
func TestShareTakesAheadOfGiving(t *testing.T) {
	k := wanting(t, 4, 4, 1, 1)
	gives(t, k, 1, 1, 0)
	gives(t, k, 2, 3, 2)
	shares(t, k, alike(3, 0), 0, 4)
	has(t, k, 0, 1, 3) // 1 is the least one, though there was 3 once the second gave it up
	has(t, k, 1, 0)
	has(t, k, 2, 2)

	k = wanting(t, 3, 1, 1, 1)
	gives(t, k, 2, 0, 1, 2)
	shares(t, k, alike(3, 0), 0, 4)
	has(t, k, 0, 1)
	has(t, k, 1, 2)
	has(t, k, 2, 0)
}

// P18.1: Share: those that are too many are taken rising, so that what is left of them is told in that order.
func TestShareTakesRising(t *testing.T) {
	k := begin(t, 5, crew(5), crew(3))
	gives(t, k, 0, 0, 1, 2, 3, 4)
	allRun(t, k)
	second, third, fourth := runner(k, 2, 0), runner(k, 3, 0), runner(k, 4, 0)
	first, least := runner(k, 1, 0), runner(k, 0, 0)
	for range 2 { // the other one begins all of its own
		runs(t, k, 1, 0)
	}
	shares(t, k, alike(2, 0), 0, 4)
	isTold(t, k, 0, 0, preempted(least), preempted(third), preempted(fourth))
	isRunning(t, k, 1, 0, first)
	isRunning(t, k, 2, 0, second)
	isTold(t, k, 3, 1, added, unblocked(0))
	isTold(t, k, 4, 1, added)
}

// P18.1: Share: who loses all of them has what is left of each wait in order; it is told that once it is given one.
func TestShareTakesAll(t *testing.T) {
	k := begin(t, 3, crew(3), crew(3))
	gives(t, k, 0, 0, 1, 2)
	allRun(t, k)
	a, b, c := runner(k, 0, 0), runner(k, 1, 0), runner(k, 2, 0)
	for range 3 { // the other one begins all of its own
		runs(t, k, 1, 0)
	}
	shares(t, k, []int{0, 7}, 0, 6)
	has(t, k, 0)
	waits(t, k, 0, preempted(c), preempted(b), preempted(a))
	isTold(t, k, 0, 1, added, unblocked(0))
	isTold(t, k, 1, 1, added)
	isTold(t, k, 2, 1, added)
	shares(t, k, []int{1, 0}, 0, 6)
	isTold(t, k, 0, 0, added, preempted(c), preempted(b), preempted(a))
	isTold(t, k, 1, 0, added)
	isTold(t, k, 2, 0, added)
	has(t, k, 1)
}

// P18.1: Share: who has just its target goes on, whatever becomes of the others.
func TestShareLeavesOthersAlone(t *testing.T) {
	k := begin(t, 6, crew(2), crew(2), crew(2))
	gives(t, k, 0, 5, 0)
	gives(t, k, 1, 1, 2)
	allRun(t, k)
	gives(t, k, 1, 4)
	a, b := runner(k, 0, 0), runner(k, 5, 0)
	runs(t, k, 2, 0)
	shares(t, k, alike(3, 0), 0, 3)
	has(t, k, 0, 0, 5)
	isRunning(t, k, 0, 0, a)
	isRunning(t, k, 5, 0, b)
	has(t, k, 1, 1, 2)
	has(t, k, 2, 3, 4)
}

// P18.1: Share: from one turn to the next just what is another's goes over.
func TestShareByTurns(t *testing.T) {
	k := wanting(t, 4, 4, 4, 4)
	prio := alike(3, 0)
	shares(t, k, prio, 0, 4)
	has(t, k, 0, 0, 1)
	has(t, k, 1, 2)
	has(t, k, 2, 3)
	fair(t, k, prio, 1, false)
	shares(t, k, prio, 1, 2)
	has(t, k, 0, 0)
	has(t, k, 1, 1, 2)
	has(t, k, 2, 3)
	fair(t, k, prio, 0, false)
	shares(t, k, prio, -1, 2)
	has(t, k, 0, 0)
	has(t, k, 1, 1)
	has(t, k, 2, 2, 3)
	fair(t, k, prio, 2, true)
	fair(t, k, prio, math.MaxInt-2, true) // leaves 2, likewise
	fair(t, k, prio, math.MinInt+1, true)
	shares(t, k, prio, 3, 2)
	has(t, k, 0, 0, 3)
}

// P18.1: Share: by who may run now, as they come, block and end.
func TestShareAsTheyCome(t *testing.T) {
	k := begin(t, 6, crew(16), crew(16), crew(0))
	prio := alike(3, 0)
	shares(t, k, prio, 0, 3)
	has(t, k, 2, 2)
	for range 400 {
		for proc := range 3 {
			if _, _, e := k.Step(proc, 0); e != api.OK {
				t.Fatalf("Step(%d, 0) is %d", proc, e)
			}
		}
	}
	demands(t, k, 16, 16, 0)
	fair(t, k, prio, 0, false)
	shares(t, k, prio, 0, 5)
	has(t, k, 0, 0, 2, 3)
	has(t, k, 1, 1, 4, 5)
	has(t, k, 2)
	free(t, k)
}

// P18.1: Fair: each space has just its target: not one more, not one fewer, and not that of another.
func TestFair(t *testing.T) {
	k := wanting(t, 6, 2, 3)
	prio := alike(2, 0)
	fair(t, k, prio, 0, false)
	gives(t, k, 0, 5)
	gives(t, k, 1, 0, 2, 4)
	fair(t, k, prio, 0, false) // the first has one fewer
	gives(t, k, 0, 1)
	fair(t, k, prio, 0, true)
	gives(t, k, 0, 3)
	fair(t, k, prio, 0, false) // one more
	k.Take(3)
	gives(t, k, 1, 3)
	fair(t, k, prio, 0, false) // now the last has one more
	k.Take(3)
	k.Take(0)
	fair(t, k, prio, 0, false) // and now one fewer
	gives(t, k, 0, 0)
	fair(t, k, prio, 0, false) // as many in all, but the other's
	k.Take(0)
	gives(t, k, 1, 0)
	fair(t, k, prio, 0, true)
	runs(t, k, 0, 0)
	fair(t, k, prio, 0, true) // it goes on for ever, and begins no one
}

// P18.1: Fair: of spaces of which no thread may run, those that have none.
func TestFairOfNobody(t *testing.T) {
	k := wanting(t, 2, 0, 0, 0)
	for _, turn := range ends() {
		fair(t, k, alike(3, 0), turn, true)
		fair(t, k, []int{7, 0, 3}, turn, true)
	}
	for space := range 3 {
		gives(t, k, space, 1)
		fair(t, k, alike(3, 0), 0, false)
		k.Take(1)
	}
	fair(t, k, alike(3, 0), 0, true)
}

// P18.1: Fair: by priority and turn.
func TestFairByPriorityAndTurn(t *testing.T) {
	k := wanting(t, 3, 3, 3)
	gives(t, k, 0, 0, 1)
	gives(t, k, 1, 2)
	for _, turn := range []int{0, 2, -2, 64, 1 << 32, math.MinInt, math.MaxInt - 1} {
		fair(t, k, []int{0, 0}, turn, true)
		fair(t, k, []int{7, 7}, turn, true)
		fair(t, k, []int{1, 0}, turn, false)
		fair(t, k, []int{0, 1}, turn, false)
	}
	for _, turn := range []int{1, 3, -1, 65, 1<<32 + 1, math.MinInt + 1, math.MaxInt} {
		fair(t, k, []int{0, 0}, turn, false)
	}
	shares(t, k, []int{1, 0}, 1, 2)
	fair(t, k, []int{1, 0}, 1, true)
	fair(t, k, []int{7, 6}, 0, true)
	fair(t, k, []int{6, 7}, 0, false)
}

// P18.1: whose a processor is the kernel tells, also where someone else has changed what a library has.
func TestLibrariesOfSomeoneElse(t *testing.T) {
	k := wanting(t, 4, 2, 2)
	prio := alike(2, 0)
	shares(t, k, prio, 0, 4)
	if !k.Lib(0).Revoke(1) || !k.Lib(0).Grant(2) || !k.Lib(1).Grant(0) {
		t.Fatal("they may not go and come")
	}
	fair(t, k, prio, 0, true)
	shares(t, k, prio, 0, 0)
	shares(t, k, []int{0, 1}, 0, 0)
	for _, e := range []api.Errno{k.Take(0), k.Take(1), k.Give(0, 1), k.Give(1, 1)} {
		if e != api.OK {
			t.Fatalf("it is %d", e)
		}
	}
	fair(t, k, prio, 0, false)
	shares(t, k, prio, 0, 4)
	if list := k.Free(); len(list) != 0 {
		t.Fatalf("free are %d", list)
	}
	owners := make([]int, 4)
	for proc := range owners {
		owners[proc], _ = k.Owner(proc)
	}
	if !slices.Equal(owners, []int{1, 1, 0, 0}) {
		t.Fatalf("they are those of %d", owners)
	}
}
