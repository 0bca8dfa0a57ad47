package ready_test

import (
	"slices"
	"testing"

	"drawknife/api"
	"drawknife/ready"
)

// stay is in which row someone is, and since which call.
type stay struct{ proc, since int }

// people is who is in a row, with nothing in rows: their order is by since when each is there.
type people struct {
	count, calls int
	stays        map[int]stay
}

// add is what Add is.
func (p *people) add(proc, thread int) bool {
	p.calls++
	_, there := p.stays[thread]
	if there || proc < 0 || proc >= p.count {
		return false
	}
	p.stays[thread] = stay{proc, p.calls}
	return true
}

// row is who is in one, by when they came.
func (p *people) row(proc int) []int {
	var l []int
	for thread, s := range p.stays {
		if s.proc == proc {
			l = append(l, thread)
		}
	}
	slices.SortFunc(l, func(a, b int) int { return p.stays[a].since - p.stays[b].since })
	return l
}

// rows is all of them.
func (p *people) rows() [][]int {
	var l [][]int
	for proc := range p.count {
		l = append(l, p.row(proc))
	}
	return l
}

// sooner: of two people, does the first one go sooner to a processor? Its own people go by who came first, all others by their rows and who came last.
func sooner(a, b stay, proc int) bool {
	switch own := a.proc == proc; {
	case own != (b.proc == proc):
		return own
	case own:
		return a.since < b.since
	case a.proc != b.proc:
		return a.proc < b.proc
	}
	return a.since > b.since
}

// pick is what Pick is.
func (p *people) pick(proc int) (int, bool) {
	if proc < 0 || proc >= p.count {
		return 0, false
	}
	best, found := 0, false
	for thread, s := range p.stays {
		if !found || sooner(s, p.stays[best], proc) {
			best, found = thread, true
		}
	}
	delete(p.stays, best)
	return best, found
}

// beside is rows, and beside them the people who should be in them.
type beside struct {
	r *ready.Rows
	p *people
}

func newBeside(count int) beside {
	return beside{ready.New(count), &people{count: count, stays: map[int]stay{}}}
}

// add and pick do a call on both sides.
func (b beside) add(t *testing.T, proc, thread int) {
	t.Helper()
	adds(t, b.r, proc, thread, b.p.add(proc, thread))
}

func (b beside) pick(t *testing.T, proc int) {
	t.Helper()
	if thread, there := b.p.pick(proc); there {
		picks(t, b.r, proc, thread)
	} else {
		picksNobody(t, b.r, proc)
	}
}

// P13.1: all short runs of three threads, three rows and one that there is not.
func TestShortRuns(t *testing.T) {
	const rows, threads, length = 3, 3, 5
	calls := []func(*testing.T, beside){}
	for proc := range rows + 1 {
		calls = append(calls, func(t *testing.T, b beside) { b.pick(t, proc) })
		for thread := range threads {
			if proc < rows || thread == 0 {
				calls = append(calls, func(t *testing.T, b beside) { b.add(t, proc, thread) })
			}
		}
	}
	total := 1
	for range length {
		total *= len(calls)
	}
	for number := range total {
		b := newBeside(rows)
		n := number
		for range length {
			calls[n%len(calls)](t, b)
			n /= len(calls)
		}
		holds(t, b.r, b.p.rows()...)
	}
}

// dice is numbers that come in no order, the same ones each time.
type dice uint64

func (d *dice) below(n int) int {
	*d = *d*6364136223846793005 + 1442695040888963407
	return int(uint64(*d) >> 33 % uint64(n))
}

// P13.1: long runs, of each number of rows, while the rows fill and while they empty.
func TestLongRuns(t *testing.T) {
	for count := range api.MaxProcs + 1 {
		d := dice(count)
		for _, threads := range []int{3, 16, 40} {
			b := newBeside(count)
			for call := range 400 {
				proc := d.below(count+2) - 1
				// By turns more come, and more go.
				if d.below(10) < 3+4*(call/100%2) {
					b.pick(t, proc)
				} else {
					b.add(t, proc, d.below(threads)-threads/2)
				}
				holds(t, b.r, b.p.rows()...)
			}
		}
	}
}
