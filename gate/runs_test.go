package gate_test

import (
	"slices"
	"testing"

	"drawknife/api"
	"drawknife/gate"
)

// person is for what someone waits, if for anything (kind 0: nothing), with which mutex, and since which call.
type person struct {
	kind, n, with int
	since         int
}

// told is gates by the people alone: no row is kept, who waits is in order by since when they do.
type told struct {
	mutexes, conds int
	people         map[int]person
	owners         map[int]int
	counts         []int
	moment         int
}

func newTold(mutexes, conds int, sems ...int) *told {
	return &told{mutexes: mutexes, conds: conds, people: map[int]person{}, owners: map[int]int{}, counts: slices.Clone(sems)}
}

// row is who waits, by since when.
func (h *told) row(kind, n int) []int {
	var list []int
	for who, p := range h.people {
		if p.kind == kind && p.n == n {
			list = append(list, who)
		}
	}
	slices.SortFunc(list, func(a, b int) int { return h.people[a].since - h.people[b].since })
	return list
}

// stop: someone waits from now on.
func (h *told) stop(who, kind, n, with int) {
	h.moment++
	h.people[who] = person{kind, n, with, h.moment}
}

// owns: has someone a mutex?
func (h *told) owns(who, m int) bool {
	owner, owned := h.owners[m]
	return owned && owner == who
}

// want: someone is to have a mutex, at once or later.
func (h *told) want(who, m int) bool {
	if _, owned := h.owners[m]; owned {
		h.stop(who, ofMutex, m, 0)
		return false
	}
	h.owners[m] = who
	return true
}

// next is the one by choice of a row, who waits no more.
func (h *told) next(kind, n, choice int) (int, bool) {
	list := h.row(kind, n)
	if len(list) == 0 {
		return 0, false
	}
	who := list[rest(choice, len(list))]
	delete(h.people, who)
	return who, true
}

func outside(n, count int) bool { return n < 0 || n >= count }

func (h *told) lock(who, m int) (bool, api.Errno) {
	switch {
	case outside(m, h.mutexes):
		return false, api.ErrArg
	case h.people[who].kind != 0 || h.owns(who, m):
		return false, api.ErrBusy
	}
	return h.want(who, m), api.OK
}

func (h *told) unlock(who, m, choice int) (int, bool, api.Errno) {
	switch {
	case outside(m, h.mutexes):
		return 0, false, api.ErrArg
	case !h.owns(who, m):
		return 0, false, api.ErrOwner
	}
	delete(h.owners, m)
	next, ok := h.next(ofMutex, m, choice)
	if ok {
		h.owners[m] = next
	}
	return next, ok, api.OK
}

func (h *told) wait(who, c, m, choice int) (int, bool, api.Errno) {
	switch {
	case outside(c, h.conds), outside(m, h.mutexes):
		return 0, false, api.ErrArg
	case h.people[who].kind != 0:
		return 0, false, api.ErrBusy
	case !h.owns(who, m):
		return 0, false, api.ErrOwner
	}
	h.stop(who, ofCond, c, m)
	return h.unlock(who, m, choice)
}

func (h *told) signal(c, choice int, all bool) ([]int, api.Errno) {
	if outside(c, h.conds) {
		return nil, api.ErrArg
	}
	list := h.row(ofCond, c)
	if !all && len(list) > 0 {
		list = []int{list[rest(choice, len(list))]}
	}
	var on []int
	for _, who := range list {
		with := h.people[who].with
		delete(h.people, who)
		if h.want(who, with) {
			on = append(on, who)
		}
	}
	return on, api.OK
}

func (h *told) down(who, s int) (bool, api.Errno) {
	switch {
	case outside(s, len(h.counts)):
		return false, api.ErrArg
	case h.people[who].kind != 0:
		return false, api.ErrBusy
	case h.counts[s] > 0:
		h.counts[s]--
		return true, api.OK
	}
	h.stop(who, ofSem, s, 0)
	return false, api.OK
}

func (h *told) up(s, choice int) (int, bool, api.Errno) {
	if outside(s, len(h.counts)) {
		return 0, false, api.ErrArg
	}
	if who, ok := h.next(ofSem, s, choice); ok {
		return who, true, api.OK
	}
	if h.counts[s] == api.MaxCount {
		return 0, false, api.ErrFull
	}
	h.counts[s]++
	return 0, false, api.OK
}

// call is one call, by its letter.
type call struct {
	letter            byte
	who, m, c, choice int
}

// answer is what a call answers, of whichever it is.
type answer struct {
	who  int
	ok   bool
	list []int
	err  api.Errno
}

// doer is what has the calls of gates.
type doer struct {
	lock   func(who, m int) (bool, api.Errno)
	unlock func(who, m, choice int) (int, bool, api.Errno)
	wait   func(who, c, m, choice int) (int, bool, api.Errno)
	signal func(c, choice int, all bool) ([]int, api.Errno)
	down   func(who, s int) (bool, api.Errno)
	up     func(s, choice int) (int, bool, api.Errno)
}

func (d doer) do(x call) (a answer) {
	switch x.letter {
	case 'L':
		a.ok, a.err = d.lock(x.who, x.m)
	case 'U':
		a.who, a.ok, a.err = d.unlock(x.who, x.m, x.choice)
	case 'W':
		a.who, a.ok, a.err = d.wait(x.who, x.c, x.m, x.choice)
	case 'S', 'B':
		a.list, a.err = d.signal(x.c, x.choice, x.letter == 'B')
	case 'D':
		a.ok, a.err = d.down(x.who, x.m)
	case 'V':
		a.who, a.ok, a.err = d.up(x.m, x.choice)
	}
	return a
}

// pair is gates, and what was told of them.
type pair struct {
	g       *gate.Gates
	h       *told
	isDoer  doer
	askDoer doer
}

func newPair(mutexes, conds int, sems ...int) pair {
	g, h := gate.New(mutexes, conds, sems), newTold(mutexes, conds, sems...)
	return pair{
		g, h,
		doer{g.Lock, g.Unlock, g.Wait, g.Signal, g.Down, g.Up},
		doer{h.lock, h.unlock, h.wait, h.signal, h.down, h.up},
	}
}

// both does one call on either, and asks that they come to the same.
func (p pair) both(t *testing.T, x call) {
	t.Helper()
	is, wanted := p.isDoer.do(x), p.askDoer.do(x)
	if is.who != wanted.who || is.ok != wanted.ok || is.err != wanted.err || !slices.Equal(is.list, wanted.list) {
		t.Fatalf("%c %+v is %+v, not %+v", x.letter, x, is, wanted)
	}
	p.same(t)
}

// same asks that all that is to be seen is the same.
func (p pair) same(t *testing.T) {
	t.Helper()
	for m := range p.h.mutexes {
		who, ok := p.g.Owner(m)
		if wanted, owned := p.h.owners[m]; who != wanted || ok != owned {
			t.Fatalf("Owner(%d) is %d, %t; not %d, %t", m, who, ok, wanted, owned)
		}
		rowIs(t, p.g, ofMutex, m, p.h.row(ofMutex, m)...)
	}
	for c := range p.h.conds {
		rowIs(t, p.g, ofCond, c, p.h.row(ofCond, c)...)
	}
	for s := range p.h.counts {
		rowIs(t, p.g, ofSem, s, p.h.row(ofSem, s)...)
	}
	counts(t, p.g, p.h.counts...)
}

// shortCalls is each call of three people at two mutexes, a condition and a semaphore.
func shortCalls() []call {
	var list []call
	for who := range 3 {
		for m := range 2 {
			list = append(list, call{'L', who, m, 0, 0}, call{'U', who, m, 0, -1}, call{'W', who, m, 0, 1})
		}
		list = append(list, call{'D', who, 0, 0, 0})
	}
	return append(list, call{'S', 0, 0, 0, -1}, call{'B', 0, 0, 0, 1}, call{'V', 0, 0, 0, -1})
}

// P9.1, P9.2, P9.3: all short runs of three, from the beginning and from where two of them wait.
func TestAllShortRuns(t *testing.T) {
	const length = 3
	list, runs := shortCalls(), 1
	for range length {
		runs *= len(list)
	}
	begins := [][]call{
		nil,
		{{'L', 0, 0, 0, 0}, {'W', 0, 0, 0, 0}, {'L', 1, 1, 0, 0}, {'W', 1, 1, 0, 0}},
		{{'L', 1, 0, 0, 0}, {'W', 1, 0, 0, 0}, {'L', 0, 0, 0, 0}, {'W', 0, 0, 0, 0}, {'L', 2, 0, 0, 0}},
		{{'L', 2, 0, 0, 0}, {'L', 1, 0, 0, 0}, {'L', 0, 0, 0, 0}},
		{{'D', 0, 0, 0, 0}, {'D', 1, 0, 0, 0}, {'D', 2, 0, 0, 0}},
	}
	for _, begin := range begins {
		for run := range runs {
			p := newPair(2, 1, 1)
			for _, x := range begin {
				p.isDoer.do(x)
				p.askDoer.do(x)
			}
			for n, left := 0, run; n < length; n, left = n+1, left/len(list) {
				p.both(t, list[left%len(list)])
			}
		}
	}
}

// P9.1, P9.2, P9.3: long runs, also with numbers of which there is none.
func TestLongRuns(t *testing.T) {
	const people, most = 12, api.MaxCount
	x := uint64(7)
	next := func(n int) int {
		x = x*6364136223846793005 + 1442695040888963407
		return int(x >> 33 % uint64(n))
	}
	letters := []string{"LLLLUWWSDV", "LLUUWWWSBDDV", "LUUUWSSBBDVVV"}
	for _, sems := range [][]int{nil, {0}, {2, most - 1}, {0, 1, most, 3}} {
		for objects := 0; objects <= api.MaxObjects; objects++ {
			p := newPair(objects, (objects+2)%5, sems...)
			for n := range 2500 {
				these := letters[n/60%len(letters)]
				p.both(t, call{these[next(len(these))], next(people) - people/2, next(6) - 1, next(6) - 1, next(60) - 30})
			}
		}
	}
}
