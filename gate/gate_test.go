package gate_test

import (
	"math"
	"slices"
	"testing"

	"drawknife/api"
	"drawknife/gate"
)

// The kinds of rows.
const (
	ofMutex = 1
	ofCond  = 2
	ofSem   = 3
)

// locks asks what Lock answers.
func locks(t *testing.T, g *gate.Gates, who, m int, wanted bool, wantedErr api.Errno) {
	t.Helper()
	if ok, e := g.Lock(who, m); ok != wanted || e != wantedErr {
		t.Fatalf("Lock(%d, %d) is %t, %d; not %t, %d", who, m, ok, e, wanted, wantedErr)
	}
}

// unlocks asks that Unlock gives a mutex to someone.
func unlocks(t *testing.T, g *gate.Gates, who, m, choice, wanted int) {
	t.Helper()
	if next, ok, e := g.Unlock(who, m, choice); next != wanted || !ok || e != api.OK {
		t.Fatalf("Unlock(%d, %d, %d) is %d, %t, %d; not %d, true, 0", who, m, choice, next, ok, e, wanted)
	}
}

// unlocksToNobody asks that Unlock gives a mutex to nobody, or answers an error.
func unlocksToNobody(t *testing.T, g *gate.Gates, who, m, choice int, wantedErr api.Errno) {
	t.Helper()
	if next, ok, e := g.Unlock(who, m, choice); next != 0 || ok || e != wantedErr {
		t.Fatalf("Unlock(%d, %d, %d) is %d, %t, %d; not 0, false, %d", who, m, choice, next, ok, e, wantedErr)
	}
}

// waits asks that Wait gives a mutex to someone.
func waits(t *testing.T, g *gate.Gates, who, c, m, choice, wanted int) {
	t.Helper()
	if next, ok, e := g.Wait(who, c, m, choice); next != wanted || !ok || e != api.OK {
		t.Fatalf("Wait(%d, %d, %d, %d) is %d, %t, %d; not %d, true, 0", who, c, m, choice, next, ok, e, wanted)
	}
}

// waitsToNobody asks that Wait gives a mutex to nobody, or answers an error.
func waitsToNobody(t *testing.T, g *gate.Gates, who, c, m, choice int, wantedErr api.Errno) {
	t.Helper()
	if next, ok, e := g.Wait(who, c, m, choice); next != 0 || ok || e != wantedErr {
		t.Fatalf("Wait(%d, %d, %d, %d) is %d, %t, %d; not 0, false, %d", who, c, m, choice, next, ok, e, wantedErr)
	}
}

// signals asks who goes on.
func signals(t *testing.T, g *gate.Gates, c, choice int, all bool, wanted ...int) {
	t.Helper()
	if list, e := g.Signal(c, choice, all); !slices.Equal(list, wanted) || e != api.OK {
		t.Fatalf("Signal(%d, %d, %t) is %d, %d; not %d, 0", c, choice, all, list, e, wanted)
	}
}

// signalsNot asks that Signal answers ErrArg.
func signalsNot(t *testing.T, g *gate.Gates, c, choice int, all bool) {
	t.Helper()
	if list, e := g.Signal(c, choice, all); len(list) != 0 || e != api.ErrArg {
		t.Fatalf("Signal(%d, %d, %t) is %d, %d; not none, ErrArg", c, choice, all, list, e)
	}
}

// downs asks what Down answers.
func downs(t *testing.T, g *gate.Gates, who, s int, wanted bool, wantedErr api.Errno) {
	t.Helper()
	if ok, e := g.Down(who, s); ok != wanted || e != wantedErr {
		t.Fatalf("Down(%d, %d) is %t, %d; not %t, %d", who, s, ok, e, wanted, wantedErr)
	}
}

// ups asks that Up has someone go on.
func ups(t *testing.T, g *gate.Gates, s, choice, wanted int) {
	t.Helper()
	if who, ok, e := g.Up(s, choice); who != wanted || !ok || e != api.OK {
		t.Fatalf("Up(%d, %d) is %d, %t, %d; not %d, true, 0", s, choice, who, ok, e, wanted)
	}
}

// upsNobody asks that Up has nobody go on, or answers an error.
func upsNobody(t *testing.T, g *gate.Gates, s, choice int, wantedErr api.Errno) {
	t.Helper()
	if who, ok, e := g.Up(s, choice); who != 0 || ok || e != wantedErr {
		t.Fatalf("Up(%d, %d) is %d, %t, %d; not 0, false, %d", s, choice, who, ok, e, wantedErr)
	}
}

// isOf asks whose a mutex is.
func isOf(t *testing.T, g *gate.Gates, m, wanted int) {
	t.Helper()
	if who, ok := g.Owner(m); who != wanted || !ok {
		t.Fatalf("Owner(%d) is %d, %t; not %d, true", m, who, ok, wanted)
	}
}

// isFree asks that a mutex is nobody's, or not there.
func isFree(t *testing.T, g *gate.Gates, m int) {
	t.Helper()
	if who, ok := g.Owner(m); who != 0 || ok {
		t.Fatalf("Owner(%d) is %d, %t; not 0, false", m, who, ok)
	}
}

// rowIs asks who waits, in order.
func rowIs(t *testing.T, g *gate.Gates, kind, n int, wanted ...int) {
	t.Helper()
	if list := g.Waiters(kind, n); !slices.Equal(list, wanted) {
		t.Fatalf("Waiters(%d, %d) is %d, not %d", kind, n, list, wanted)
	}
}

// counts asks for all counts, and that there are no others.
func counts(t *testing.T, g *gate.Gates, wanted ...int) {
	t.Helper()
	for s, count := range wanted {
		if n := g.Count(s); n != count {
			t.Fatalf("Count(%d) is %d, not %d", s, n, count)
		}
	}
	for _, s := range beside(len(wanted)) {
		if n := g.Count(s); n != 0 {
			t.Fatalf("Count(%d) of %d is %d", s, len(wanted), n)
		}
	}
}

// beside is numbers of which there is none, where there are so many.
func beside(count int) []int {
	return []int{math.MinInt, math.MinInt + 1, -1 << 32, -api.MaxObjects, -1, count, count + 1, 2*api.MaxObjects + 1, 1 << 32, math.MaxInt}
}

// hasNoMutex asks that there is no such mutex, for nobody and in no call.
func hasNoMutex(t *testing.T, g *gate.Gates, m, conds int) {
	t.Helper()
	locks(t, g, 1, m, false, api.ErrArg)
	unlocksToNobody(t, g, 1, m, 0, api.ErrArg)
	for c := -1; c <= conds; c++ {
		waitsToNobody(t, g, 1, c, m, 0, api.ErrArg)
	}
	isFree(t, g, m)
	rowIs(t, g, ofMutex, m)
}

// hasNoCond asks that there is no such condition.
func hasNoCond(t *testing.T, g *gate.Gates, c, mutexes int) {
	t.Helper()
	for m := -1; m <= mutexes; m++ {
		waitsToNobody(t, g, 1, c, m, 0, api.ErrArg)
	}
	signalsNot(t, g, c, 0, false)
	signalsNot(t, g, c, 0, true)
	rowIs(t, g, ofCond, c)
}

// hasNoSem asks that there is no such semaphore.
func hasNoSem(t *testing.T, g *gate.Gates, s int) {
	t.Helper()
	downs(t, g, 1, s, false, api.ErrArg)
	upsNobody(t, g, s, 0, api.ErrArg)
	rowIs(t, g, ofSem, s)
}

// isNew asks that there are so many of each, nobody's, with nobody that waits, and no others; each one is used.
func isNew(t *testing.T, g *gate.Gates, mutexes, conds int, sems ...int) {
	t.Helper()
	if g == nil {
		t.Fatal("nil")
	}
	hasNoOthers(t, g, mutexes, conds, sems)
	for m := range mutexes {
		isFree(t, g, m)
		rowIs(t, g, ofMutex, m)
		unlocksToNobody(t, g, 0, m, 0, api.ErrOwner)
		locks(t, g, 5+m, m, true, api.OK)
	}
	for c := range conds {
		rowIs(t, g, ofCond, c)
		signals(t, g, c, 0, false)
		signals(t, g, c, 0, true)
		if mutexes > 0 {
			waitsToNobody(t, g, 5, c, 0, 0, api.OK)
			rowIs(t, g, ofCond, c, 5)
			signals(t, g, c, 0, false, 5)
		}
	}
	for m := range mutexes {
		isOf(t, g, m, 5+m)
	}
	isNewSems(t, g, sems)
	hasNoOthers(t, g, mutexes, conds, sems)
}

// hasNoOthers asks that there are no more than so many, and which counts there are.
func hasNoOthers(t *testing.T, g *gate.Gates, mutexes, conds int, sems []int) {
	t.Helper()
	counts(t, g, sems...)
	for _, m := range beside(mutexes) {
		hasNoMutex(t, g, m, conds)
	}
	for _, c := range beside(conds) {
		hasNoCond(t, g, c, mutexes)
	}
	for _, s := range beside(len(sems)) {
		hasNoSem(t, g, s)
	}
}

// isNewSems asks that nobody waits for a semaphore, and that one of each may be taken just as its count says.
func isNewSems(t *testing.T, g *gate.Gates, sems []int) {
	t.Helper()
	for s, count := range sems {
		rowIs(t, g, ofSem, s)
		downs(t, g, 9, s, count > 0, api.OK)
		if count > 0 {
			rowIs(t, g, ofSem, s)
			upsNobody(t, g, s, 0, api.OK)
		} else {
			rowIs(t, g, ofSem, s, 9)
			ups(t, g, s, 0, 9)
		}
	}
}

// P9.1: New has as many as are asked for.
func TestNew(t *testing.T) {
	sems := []int{3, 0, api.MaxCount, 1}
	for mutexes := 0; mutexes <= api.MaxObjects; mutexes++ {
		for conds := 0; conds <= api.MaxObjects; conds++ {
			for n := 0; n <= api.MaxObjects; n++ {
				isNew(t, gate.New(mutexes, conds, sems[:n]), mutexes, conds, sems[:n]...)
			}
		}
	}
}

// P9.1: below as 0, above as MaxObjects; of sems the first MaxObjects.
func TestNewBeyondBounds(t *testing.T) {
	most := api.MaxObjects
	for _, n := range []int{-1, -most, -1 << 32, math.MinInt + 1, math.MinInt} {
		isNew(t, gate.New(n, 2, nil), 0, 2)
		isNew(t, gate.New(2, n, []int{}), 2, 0)
		isNew(t, gate.New(n, n, []int{4}), 0, 0, 4)
	}
	for _, n := range []int{most + 1, 2 * most, 1 << 32, math.MaxInt - 1, math.MaxInt} {
		isNew(t, gate.New(n, 2, nil), most, 2)
		isNew(t, gate.New(2, n, []int{}), 2, most)
		isNew(t, gate.New(n, n, []int{4}), most, most, 4)
	}
	isNew(t, gate.New(1, 1, []int{1, 2, 3, 4, 5}), 1, 1, 1, 2, 3, 4)
	isNew(t, gate.New(1, 1, append([]int{0, 0, 0, 7}, make([]int, 1000)...)), 1, 1, 0, 0, 0, 7)
}

// P9.1: counts from 0 to MaxCount: below as 0, above as that.
func TestNewCounts(t *testing.T) {
	most := api.MaxCount
	isNew(t, gate.New(0, 0, []int{0, 1, most - 1, most}), 0, 0, 0, 1, most-1, most)
	isNew(t, gate.New(0, 0, []int{-1, -most, math.MinInt + 1, math.MinInt}), 0, 0, 0, 0, 0, 0)
	isNew(t, gate.New(0, 0, []int{most + 1, 1 << 32, math.MaxInt - 1, math.MaxInt}), 0, 0, most, most, most, most)
}

// P9.1 with R1: Gates that nobody made have none of each.
func TestUnmadeGates(t *testing.T) { isNew(t, new(gate.Gates), 0, 0) }

// P9.1 with R4: the counts that are handed in are neither changed nor kept.
func TestCountsHandedIn(t *testing.T) {
	whole := []int{-2, 1, math.MaxInt, 2, 9, 9, 9, 9}
	sems := whole[:3]
	g := gate.New(1, 1, sems)
	downs(t, g, 1, 1, true, api.OK)
	downs(t, g, 1, 1, false, api.OK)
	upsNobody(t, g, 0, 0, api.OK)
	if !slices.Equal(whole, []int{-2, 1, math.MaxInt, 2, 9, 9, 9, 9}) {
		t.Fatal(whole)
	}
	for n := range whole {
		whole[n] = 77
	}
	counts(t, g, 1, 0, api.MaxCount)
}

// P9.1: whoever comes first has a mutex, others wait behind each other; whoever has it, or waits, is refused.
func TestLock(t *testing.T) {
	g := gate.New(2, 0, nil)
	locks(t, g, 7, 0, true, api.OK)
	isOf(t, g, 0, 7)
	isFree(t, g, 1)
	locks(t, g, 7, 0, false, api.ErrBusy)
	for n, who := range []int{9, 2, 5} {
		locks(t, g, who, 0, false, api.OK)
		rowIs(t, g, ofMutex, 0, []int{9, 2, 5}[:n+1]...)
		isOf(t, g, 0, 7)
	}
	for _, who := range []int{9, 2, 5} {
		locks(t, g, who, 0, false, api.ErrBusy)
		locks(t, g, who, 1, false, api.ErrBusy)
	}
	locks(t, g, 7, 0, false, api.ErrBusy)
	rowIs(t, g, ofMutex, 0, 9, 2, 5)
	isOf(t, g, 0, 7)
	isFree(t, g, 1)
	locks(t, g, 7, 1, true, api.OK)
	isOf(t, g, 0, 7)
	isOf(t, g, 1, 7)
}

// P9.1: a mutex goes to who waits for it, and is nobody's where none does; who has it then may give it up in turn, and want it again.
func TestUnlock(t *testing.T) {
	g := gate.New(1, 0, nil)
	locks(t, g, 1, 0, true, api.OK)
	locks(t, g, 2, 0, false, api.OK)
	locks(t, g, 3, 0, false, api.OK)
	unlocks(t, g, 1, 0, 0, 2)
	isOf(t, g, 0, 2)
	rowIs(t, g, ofMutex, 0, 3)
	locks(t, g, 2, 0, false, api.ErrBusy)
	locks(t, g, 1, 0, false, api.OK)
	rowIs(t, g, ofMutex, 0, 3, 1)
	unlocks(t, g, 2, 0, 0, 3)
	unlocks(t, g, 3, 0, 0, 1)
	rowIs(t, g, ofMutex, 0)
	for _, choice := range []int{math.MinInt, -1, 0, 1, math.MaxInt} {
		unlocksToNobody(t, g, 1, 0, choice, api.OK)
		isFree(t, g, 0)
		unlocksToNobody(t, g, 1, 0, choice, api.ErrOwner)
		locks(t, g, 1, 0, true, api.OK)
	}
}

// P9.1: who has a mutex not, or one that is another's, or waits for it, may not give it up; nothing comes of it.
func TestUnlockOfOthers(t *testing.T) {
	g := gate.New(2, 0, nil)
	for _, who := range []int{0, 1, -1} {
		unlocksToNobody(t, g, who, 0, 0, api.ErrOwner)
	}
	locks(t, g, 1, 0, true, api.OK)
	locks(t, g, 2, 1, true, api.OK)
	locks(t, g, 3, 0, false, api.OK)
	for _, who := range []int{0, 2, 3, -1, math.MinInt} {
		unlocksToNobody(t, g, who, 0, 0, api.ErrOwner)
	}
	unlocksToNobody(t, g, 1, 1, 0, api.ErrOwner)
	isOf(t, g, 0, 1)
	isOf(t, g, 1, 2)
	rowIs(t, g, ofMutex, 0, 3)
}

// P9.1: who waits for one may still give up another that they have.
func TestUnlockByWhoWaits(t *testing.T) {
	g := gate.New(3, 1, []int{0})
	locks(t, g, 1, 0, true, api.OK)
	locks(t, g, 1, 1, true, api.OK)
	locks(t, g, 2, 2, true, api.OK)
	locks(t, g, 1, 2, false, api.OK)
	unlocksToNobody(t, g, 1, 0, 0, api.OK)
	isFree(t, g, 0)
	unlocksToNobody(t, g, 1, 2, 0, api.ErrOwner)
	unlocks(t, g, 2, 2, 0, 1)
	waitsToNobody(t, g, 1, 0, 2, 0, api.OK)
	unlocksToNobody(t, g, 1, 1, 0, api.OK)
	rowIs(t, g, ofCond, 0, 1)
	locks(t, g, 3, 0, true, api.OK)
	downs(t, g, 3, 0, false, api.OK)
	unlocksToNobody(t, g, 3, 0, 0, api.OK)
	rowIs(t, g, ofSem, 0, 3)
}

// rest is k by count, not below 0, by counting alone: for numbers that are not far from 0.
func rest(k, count int) int {
	for k < 0 {
		k += count
	}
	for k >= count {
		k -= count
	}
	return k
}

// some is so many numbers of people, in no order.
func some(count int) []int {
	var list []int
	for n := range count {
		list = append(list, 100+(n*37)%64)
	}
	return list
}

// chooses asks of each call that has a choice whom it takes of a row of so many, and that the others stay in their order.
func chooses(t *testing.T, count, choice, at int) {
	t.Helper()
	list := some(count)
	others := slices.Concat(list[:at], list[at+1:])
	g := gate.New(0, 0, []int{0})
	for _, who := range list {
		downs(t, g, who, 0, false, api.OK)
	}
	ups(t, g, 0, choice, list[at])
	rowIs(t, g, ofSem, 0, others...)
	g = gate.New(1, 2, nil)
	for _, who := range list {
		locks(t, g, who, 0, true, api.OK)
		waitsToNobody(t, g, who, 1, 0, choice, api.OK)
	}
	signals(t, g, 1, choice, false, list[at])
	rowIs(t, g, ofCond, 1, others...)
	isOf(t, g, 0, list[at])
	for _, byWait := range []bool{false, true} {
		g = gate.New(1, 1, nil)
		locks(t, g, 1, 0, true, api.OK)
		for _, who := range list {
			locks(t, g, who, 0, false, api.OK)
		}
		if byWait {
			waits(t, g, 1, 0, 0, choice, list[at])
			rowIs(t, g, ofCond, 0, 1)
		} else {
			unlocks(t, g, 1, 0, choice, list[at])
		}
		isOf(t, g, 0, list[at])
		rowIs(t, g, ofMutex, 0, others...)
	}
}

// P9.1, P9.2, P9.3: a choice is by the row's length, as a rest that is not below 0.
func TestChoices(t *testing.T) {
	for count := 1; count <= 6; count++ {
		for choice := -20; choice <= 20; choice++ {
			chooses(t, count, choice, rest(choice, count))
		}
	}
}

// P9.1, P9.2, P9.3 with R1: choices at the ends of numbers. The most is 2^63 - 1, the least -2^63.
func TestChoicesAtTheEnds(t *testing.T) {
	for _, c := range []struct{ count, choice, at int }{
		{1, math.MaxInt, 0}, {1, math.MinInt, 0},
		{2, math.MaxInt, 1}, {2, math.MinInt, 0},
		{3, math.MaxInt, 1}, {3, math.MinInt, 1},
		{4, math.MaxInt, 3}, {4, math.MinInt, 0},
		{5, math.MaxInt, 2}, {5, math.MinInt, 2},
		{7, math.MaxInt, 0}, {7, math.MinInt, 6},
		{3, math.MaxInt - 1, 0}, {3, math.MinInt + 1, 2},
		{3, 1 << 32, 1}, {3, -(1 << 32), 2},
	} {
		chooses(t, c.count, c.choice, c.at)
	}
}

// P9.2: who waits for a condition gives the mutex up, and no other that they have; others may have it.
func TestWait(t *testing.T) {
	g := gate.New(2, 2, nil)
	locks(t, g, 4, 0, true, api.OK)
	locks(t, g, 4, 1, true, api.OK)
	waitsToNobody(t, g, 4, 1, 0, 0, api.OK)
	isFree(t, g, 0)
	isOf(t, g, 1, 4)
	rowIs(t, g, ofCond, 0)
	rowIs(t, g, ofCond, 1, 4)
	rowIs(t, g, ofMutex, 0)
	locks(t, g, 2, 0, true, api.OK)
	locks(t, g, 6, 0, false, api.OK)
	waits(t, g, 2, 1, 0, 0, 6)
	isOf(t, g, 0, 6)
	rowIs(t, g, ofCond, 1, 4, 2)
	waitsToNobody(t, g, 6, 0, 0, 0, api.OK)
	isFree(t, g, 0)
	rowIs(t, g, ofCond, 0, 6)
	rowIs(t, g, ofCond, 1, 4, 2)
}

// P9.2 with R2: none such comes ahead of who waits, and that ahead of whose it is; nothing comes of an error.
func TestWaitErrors(t *testing.T) {
	g := gate.New(2, 2, []int{0})
	locks(t, g, 1, 0, true, api.OK)
	locks(t, g, 2, 0, false, api.OK)
	locks(t, g, 3, 1, true, api.OK)
	downs(t, g, 3, 0, false, api.OK)
	for _, n := range beside(2) {
		for _, who := range []int{1, 2, 3, 4} {
			waitsToNobody(t, g, who, n, 0, 0, api.ErrArg)
			waitsToNobody(t, g, who, 0, n, 0, api.ErrArg)
			waitsToNobody(t, g, who, n, n, 0, api.ErrArg)
		}
	}
	waitsToNobody(t, g, 2, 0, 0, 0, api.ErrBusy)
	waitsToNobody(t, g, 3, 0, 0, 0, api.ErrBusy)
	waitsToNobody(t, g, 3, 0, 1, 0, api.ErrBusy)
	waitsToNobody(t, g, 1, 0, 1, 0, api.ErrOwner)
	waitsToNobody(t, g, 4, 0, 0, 0, api.ErrOwner)
	unlocks(t, g, 1, 0, 0, 2)
	unlocksToNobody(t, g, 2, 0, 0, api.OK)
	waitsToNobody(t, g, 0, 0, 0, 0, api.ErrOwner)
	isFree(t, g, 0)
	isOf(t, g, 1, 3)
	rowIs(t, g, ofCond, 0)
	rowIs(t, g, ofCond, 1)
	rowIs(t, g, ofSem, 0, 3)
}

// P9.2: one that is told goes on with its mutex, if nobody has that; else it waits for that, behind those that do.
func TestSignalOne(t *testing.T) {
	g := gate.New(1, 1, nil)
	for _, who := range []int{5, 3, 8} {
		locks(t, g, who, 0, true, api.OK)
		waitsToNobody(t, g, who, 0, 0, 0, api.OK)
	}
	signals(t, g, 0, 1, false, 3)
	isOf(t, g, 0, 3)
	rowIs(t, g, ofCond, 0, 5, 8)
	locks(t, g, 9, 0, false, api.OK)
	signals(t, g, 0, 1, false)
	rowIs(t, g, ofCond, 0, 5)
	rowIs(t, g, ofMutex, 0, 9, 8)
	signals(t, g, 0, 0, false)
	rowIs(t, g, ofCond, 0)
	rowIs(t, g, ofMutex, 0, 9, 8, 5)
	signals(t, g, 0, 0, false)
	isOf(t, g, 0, 3)
	unlocks(t, g, 3, 0, 2, 5)
	isOf(t, g, 0, 5)
	rowIs(t, g, ofMutex, 0, 9, 8)
}

// P9.2: with all, each one in order: the first has the mutex that they share, the others wait for it behind, whatever the choice.
func TestSignalAll(t *testing.T) {
	for _, choice := range []int{math.MinInt, -1, 0, 1, 2, math.MaxInt} {
		g := gate.New(2, 2, nil)
		for _, who := range []int{5, 3, 8} {
			locks(t, g, who, 1, true, api.OK)
			waitsToNobody(t, g, who, 1, 1, 0, api.OK)
		}
		signals(t, g, 0, choice, true)
		rowIs(t, g, ofCond, 1, 5, 3, 8)
		signals(t, g, 1, choice, true, 5)
		rowIs(t, g, ofCond, 1)
		isOf(t, g, 1, 5)
		rowIs(t, g, ofMutex, 1, 3, 8)
		signals(t, g, 1, choice, true)
		unlocks(t, g, 5, 1, 0, 3)
		isFree(t, g, 0)
	}
}

// P9.2: those that wait for one condition may have given up different mutexes: each has its own again, or waits for that.
func TestSignalWithTheirOwn(t *testing.T) {
	g := gate.New(4, 1, nil)
	for _, c := range []struct{ who, m int }{{10, 2}, {11, 0}, {12, 2}, {13, 3}, {14, 1}, {15, 0}} {
		locks(t, g, c.who, c.m, true, api.OK)
		waitsToNobody(t, g, c.who, 0, c.m, 0, api.OK)
	}
	locks(t, g, 1, 3, true, api.OK)
	locks(t, g, 2, 3, false, api.OK)
	signals(t, g, 0, 5, true, 10, 11, 14)
	rowIs(t, g, ofCond, 0)
	for m, who := range []int{11, 14, 10, 1} {
		isOf(t, g, m, who)
	}
	rowIs(t, g, ofMutex, 0, 15)
	rowIs(t, g, ofMutex, 1)
	rowIs(t, g, ofMutex, 2, 12)
	rowIs(t, g, ofMutex, 3, 2, 13)
}

// P9.2: who waits for a condition anew does so with the mutex that they give up then, not with that of earlier.
func TestWaitAnewWithAnother(t *testing.T) {
	for _, all := range []bool{false, true} {
		g := gate.New(3, 2, nil)
		for _, c := range []struct{ c, m int }{{0, 2}, {0, 1}, {1, 0}, {0, 0}, {1, 2}} {
			locks(t, g, 4, c.m, true, api.OK)
			waitsToNobody(t, g, 4, c.c, c.m, 0, api.OK)
			signals(t, g, c.c, 0, all, 4)
			for m := range 3 {
				if m == c.m {
					isOf(t, g, m, 4)
				} else {
					isFree(t, g, m)
				}
			}
			unlocksToNobody(t, g, 4, c.m, 0, api.OK)
		}
	}
}

// P9.2: no such condition, whoever waits for others; and none goes on where none waits.
func TestSignalNobody(t *testing.T) {
	g := gate.New(1, 2, []int{0})
	locks(t, g, 1, 0, true, api.OK)
	waitsToNobody(t, g, 1, 0, 0, 0, api.OK)
	downs(t, g, 2, 0, false, api.OK)
	for _, choice := range []int{math.MinInt, -1, 0, 1, math.MaxInt} {
		for _, all := range []bool{false, true} {
			for _, c := range beside(2) {
				signalsNot(t, g, c, choice, all)
			}
			signals(t, g, 1, choice, all)
		}
	}
	rowIs(t, g, ofCond, 0, 1)
	rowIs(t, g, ofSem, 0, 2)
	isFree(t, g, 0)
}

// P9.3: as many go on as the count says, others wait behind each other, and go on one by one; the count is none meanwhile.
func TestSemaphore(t *testing.T) {
	g := gate.New(0, 0, []int{2, 0})
	downs(t, g, 1, 0, true, api.OK)
	counts(t, g, 1, 0)
	downs(t, g, 1, 0, true, api.OK)
	counts(t, g, 0, 0)
	for n, who := range []int{1, 9, 4} {
		downs(t, g, who, 0, false, api.OK)
		rowIs(t, g, ofSem, 0, []int{1, 9, 4}[:n+1]...)
		counts(t, g, 0, 0)
	}
	for _, who := range []int{1, 9, 4} {
		downs(t, g, who, 0, false, api.ErrBusy)
		downs(t, g, who, 1, false, api.ErrBusy)
	}
	rowIs(t, g, ofSem, 1)
	ups(t, g, 0, 1, 9)
	counts(t, g, 0, 0)
	rowIs(t, g, ofSem, 0, 1, 4)
	upsNobody(t, g, 1, 0, api.OK)
	counts(t, g, 0, 1)
	downs(t, g, 9, 1, true, api.OK)
	counts(t, g, 0, 0)
	ups(t, g, 0, -1, 4)
	ups(t, g, 0, 0, 1)
	counts(t, g, 0, 0)
	upsNobody(t, g, 0, 0, api.OK)
	counts(t, g, 1, 0)
}

// P9.3: a count goes up to MaxCount and no further.
func TestCountIsFull(t *testing.T) {
	g := gate.New(0, 0, []int{api.MaxCount - 2, math.MaxInt})
	for n := api.MaxCount - 1; n <= api.MaxCount; n++ {
		upsNobody(t, g, 0, n, api.OK)
		counts(t, g, n, api.MaxCount)
	}
	for _, choice := range []int{math.MinInt, -1, 0, 1, math.MaxInt} {
		upsNobody(t, g, 0, choice, api.ErrFull)
		upsNobody(t, g, 1, choice, api.ErrFull)
		counts(t, g, api.MaxCount, api.MaxCount)
	}
	downs(t, g, 1, 0, true, api.OK)
	counts(t, g, api.MaxCount-1, api.MaxCount)
	upsNobody(t, g, 0, 0, api.OK)
	upsNobody(t, g, 0, 0, api.ErrFull)
}

// P9.1, P9.2, P9.3: who waits, for whichever it is, may neither lock nor wait nor take one of a count that is above 0, also with a mutex that they have; that there is no such one comes ahead of that.
func TestWhoWaitsIsBusy(t *testing.T) {
	g := gate.New(4, 2, []int{0, 1})
	locks(t, g, 0, 0, true, api.OK)
	locks(t, g, 1, 3, true, api.OK)
	locks(t, g, 2, 2, true, api.OK)
	locks(t, g, 1, 0, false, api.OK)
	locks(t, g, 2, 1, true, api.OK)
	waitsToNobody(t, g, 2, 1, 1, 0, api.OK)
	downs(t, g, 3, 0, false, api.OK)
	for who := 1; who <= 3; who++ {
		for m := range 4 {
			locks(t, g, who, m, false, api.ErrBusy)
			for c := range 2 {
				waitsToNobody(t, g, who, c, m, 0, api.ErrBusy)
			}
		}
		downs(t, g, who, 0, false, api.ErrBusy)
		downs(t, g, who, 1, false, api.ErrBusy)
		for _, n := range beside(4) {
			locks(t, g, who, n, false, api.ErrArg)
			unlocksToNobody(t, g, who, n, 0, api.ErrArg)
			downs(t, g, who, n, false, api.ErrArg)
			waitsToNobody(t, g, who, n, 3, 0, api.ErrArg)
		}
	}
	counts(t, g, 0, 1)
	rowIs(t, g, ofMutex, 0, 1)
	rowIs(t, g, ofCond, 1, 2)
	rowIs(t, g, ofSem, 0, 3)
	signals(t, g, 1, 0, false, 2)
	ups(t, g, 0, 0, 3)
	unlocks(t, g, 0, 0, 0, 1)
	for who := 1; who <= 3; who++ {
		downs(t, g, who, 1, true, api.OK)
		upsNobody(t, g, 1, 0, api.OK)
	}
}

// P9.2: one that a Signal has wait for its mutex waits for that, and is busy until it has it.
func TestSignalledIsBusy(t *testing.T) {
	g := gate.New(2, 1, []int{1})
	locks(t, g, 1, 0, true, api.OK)
	waitsToNobody(t, g, 1, 0, 0, 0, api.OK)
	locks(t, g, 2, 0, true, api.OK)
	signals(t, g, 0, 0, false)
	locks(t, g, 1, 0, false, api.ErrBusy)
	locks(t, g, 1, 1, false, api.ErrBusy)
	waitsToNobody(t, g, 1, 0, 0, 0, api.ErrBusy)
	downs(t, g, 1, 0, false, api.ErrBusy)
	unlocksToNobody(t, g, 1, 0, 0, api.ErrOwner)
	unlocks(t, g, 2, 0, 0, 1)
	downs(t, g, 1, 0, true, api.OK)
	locks(t, g, 1, 0, false, api.ErrBusy)
	waitsToNobody(t, g, 1, 0, 0, 0, api.OK)
}

// P9.3: there are rows of kinds 1, 2 and 3 alone.
func TestOtherKinds(t *testing.T) {
	g := gate.New(4, 4, []int{0, 0, 0, 0})
	for n := range 4 {
		locks(t, g, 10+n, n, true, api.OK)
		locks(t, g, 20+n, n, false, api.OK)
		downs(t, g, 30+n, n, false, api.OK)
		locks(t, g, 40+n, n, false, api.OK)
		unlocks(t, g, 10+n, n, 1, 40+n)
		waits(t, g, 40+n, n, n, 0, 20+n)
		locks(t, g, 50+n, n, false, api.OK)
	}
	for n := range 4 {
		rowIs(t, g, ofMutex, n, 50+n)
		rowIs(t, g, ofCond, n, 40+n)
		rowIs(t, g, ofSem, n, 30+n)
		for _, kind := range []int{math.MinInt, -3, -1, 0, 4, 5, 1 << 32, 1<<32 + 1, math.MaxInt} {
			rowIs(t, g, kind, n)
		}
	}
	for kind := ofMutex; kind <= ofSem; kind++ {
		for _, n := range beside(4) {
			rowIs(t, g, kind, n)
		}
	}
}

// P9.1, P9.2, P9.3 with R1: who at the ends of numbers are as others are, and 0 is someone.
func TestWhoAtTheEnds(t *testing.T) {
	all := []int{0, math.MinInt, -1, math.MaxInt}
	g := gate.New(1, 1, []int{0})
	locks(t, g, 1, 0, true, api.OK)
	for _, who := range all {
		locks(t, g, who, 0, false, api.OK)
	}
	rowIs(t, g, ofMutex, 0, all...)
	unlocks(t, g, 1, 0, 0, 0)
	for n, who := range all {
		isOf(t, g, 0, who)
		locks(t, g, who, 0, false, api.ErrBusy)
		if n < 3 {
			waits(t, g, who, 0, 0, 0, all[n+1])
		} else {
			waitsToNobody(t, g, who, 0, 0, 0, api.OK)
		}
		waitsToNobody(t, g, who, 0, 0, 0, api.ErrBusy)
	}
	rowIs(t, g, ofCond, 0, all...)
	signals(t, g, 0, 0, true, 0)
	rowIs(t, g, ofMutex, 0, all[1:]...)
	for n, who := range all {
		if n < 3 {
			unlocks(t, g, who, 0, 0, all[n+1])
		} else {
			unlocksToNobody(t, g, who, 0, 0, api.OK)
		}
		downs(t, g, who, 0, false, api.OK)
	}
	rowIs(t, g, ofSem, 0, all...)
	for _, who := range all {
		downs(t, g, who, 0, false, api.ErrBusy)
		ups(t, g, 0, 0, who)
	}
}

// P9.3: Gates that are nil refuse all and have nothing.
func TestNilGates(t *testing.T) {
	var g *gate.Gates
	for _, n := range []int{math.MinInt, -1, 0, 1, 2, 3, math.MaxInt} {
		hasNoMutex(t, g, n, 1)
		hasNoCond(t, g, n, 1)
		hasNoSem(t, g, n)
		downs(t, g, n, 0, false, api.ErrArg)
		locks(t, g, n, 0, false, api.ErrArg)
		rowIs(t, g, n, 0)
	}
	counts(t, g)
}

// spoil writes over a list, spare room included.
func spoil(list []int) {
	whole := list[:cap(list)]
	for at := range whole {
		whole[at] = 77
	}
}

// fill is Gates with five that wait for each of a mutex, a condition and a semaphore.
func fill(t *testing.T) *gate.Gates {
	t.Helper()
	g := gate.New(2, 1, []int{0})
	for n := range 5 {
		locks(t, g, 20+n, 1, true, api.OK)
		waitsToNobody(t, g, 20+n, 0, 1, 0, api.OK)
		downs(t, g, 30+n, 0, false, api.OK)
		locks(t, g, 10+n-1, 0, n == 0, api.OK)
	}
	locks(t, g, 14, 0, false, api.OK)
	return g
}

// P9.3 with R4: what is answered is the caller's own, spare room included.
func TestAnswersAreNewMemory(t *testing.T) {
	g := fill(t)
	for kind := ofMutex; kind <= ofSem; kind++ {
		wanted := []int{kind * 10, kind*10 + 1, kind*10 + 2, kind*10 + 3, kind*10 + 4}
		rowIs(t, g, kind, 0, wanted...)
		spoil(g.Waiters(kind, 0))
		rowIs(t, g, kind, 0, wanted...)
		_ = append(g.Waiters(kind, 0)[:2], 77, 77)
		rowIs(t, g, kind, 0, wanted...)
		one, other := g.Waiters(kind, 0), g.Waiters(kind, 0)
		spoil(one)
		if !slices.Equal(other, wanted) {
			t.Fatal(kind, other)
		}
	}
	list, _ := g.Signal(0, 0, true)
	spoil(list)
	isOf(t, g, 1, 20)
	rowIs(t, g, ofMutex, 1, 21, 22, 23, 24)
}

// P9.3 with R4: what was answered stays, whatever is done later.
func TestAnswersStay(t *testing.T) {
	g := fill(t)
	mutex, cond, sem := g.Waiters(ofMutex, 0), g.Waiters(ofCond, 0), g.Waiters(ofSem, 0)
	unlocks(t, g, 9, 0, 1, 11)
	signals(t, g, 0, 2, false, 22)
	ups(t, g, 0, 0, 30)
	locks(t, g, 1, 0, false, api.OK)
	downs(t, g, 2, 0, false, api.OK)
	waitsToNobody(t, g, 22, 0, 1, 0, api.OK)
	if !slices.Equal(mutex, []int{10, 11, 12, 13, 14}) || !slices.Equal(cond, []int{20, 21, 22, 23, 24}) || !slices.Equal(sem, []int{30, 31, 32, 33, 34}) {
		t.Fatal(mutex, cond, sem)
	}
	rowIs(t, g, ofMutex, 0, 10, 12, 13, 14, 1)
	rowIs(t, g, ofCond, 0, 20, 21, 23, 24, 22)
	rowIs(t, g, ofSem, 0, 31, 32, 33, 34, 2)
}

// P9.3 with R4: an answer of none is not the row that comes to be later.
func TestAnswerOfNoneIsNewMemory(t *testing.T) {
	g := gate.New(0, 0, []int{0})
	downs(t, g, 1, 0, false, api.OK)
	ups(t, g, 0, 0, 1)
	none := g.Waiters(ofSem, 0)
	downs(t, g, 2, 0, false, api.OK)
	_ = append(none, 77)
	rowIs(t, g, ofSem, 0, 2)
}

// P9.1 with R5: who waits at some Gates may do so at others.
func TestGatesAreApart(t *testing.T) {
	a, b := gate.New(1, 1, []int{1}), gate.New(1, 1, []int{1})
	locks(t, a, 1, 0, true, api.OK)
	locks(t, a, 2, 0, false, api.OK)
	isFree(t, b, 0)
	locks(t, b, 2, 0, true, api.OK)
	waitsToNobody(t, b, 2, 0, 0, 0, api.OK)
	downs(t, a, 1, 0, true, api.OK)
	counts(t, b, 1)
	signals(t, a, 0, 0, true)
	rowIs(t, b, ofCond, 0, 2)
	rowIs(t, a, ofMutex, 0, 2)
	isOf(t, a, 0, 1)
}

// P9.1, P9.2, P9.3: who waits has no most.
func TestManyWait(t *testing.T) {
	const many = 1500
	g := gate.New(1, 1, []int{0})
	for who := range many {
		locks(t, g, who, 0, true, api.OK)
		waitsToNobody(t, g, who, 0, 0, 0, api.OK)
	}
	signals(t, g, 0, 0, true, 0)
	for who := range many - 1 {
		unlocks(t, g, who, 0, 0, who+1)
		downs(t, g, who, 0, false, api.OK)
	}
	for n := range many - 1 {
		// Now the last, now the first.
		who, choice := n/2, 0
		if n%2 == 0 {
			who, choice = many-2-n/2, -1
		}
		ups(t, g, 0, choice, who)
	}
	rowIs(t, g, ofSem, 0)
	isOf(t, g, 0, many-1)
}
