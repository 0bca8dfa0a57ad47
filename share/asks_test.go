package share_test

import (
	"math"
	"math/big"
	"slices"
	"testing"

	"drawknife/api"
	"drawknife/share"
)

// spare is what stands in the spare room of a list that is handed in.
const spare = -77

// roomy is a list with spare room behind it.
func roomy(list []int) []int {
	l := slices.Repeat([]int{spare}, len(list)+3)
	copy(l, list)
	return l[:len(list)]
}

// kept: is a list, with its spare room, as roomy made it?
func kept(l, list []int) bool {
	return slices.Equal(l, list) && slices.Equal(l[len(l):cap(l)], slices.Repeat([]int{spare}, cap(l)-len(l)))
}

// fair is what Fair answers, of lists that it may not change.
func fair(t *testing.T, procs int, demand, prio []int, turn int) []int {
	t.Helper()
	d, p := roomy(demand), roomy(prio)
	l := share.Fair(procs, d, p, turn)
	if !kept(d, demand) || !kept(p, prio) {
		t.Fatalf("Fair(%d, %v, %v, %d) changed what was handed in: %v, %v", procs, demand, prio, turn, d[:cap(d)], p[:cap(p)])
	}
	return l
}

// shares asks for what Fair answers.
func shares(t *testing.T, procs int, demand, prio []int, turn int, wanted ...int) {
	t.Helper()
	if l := fair(t, procs, demand, prio, turn); !slices.Equal(l, wanted) {
		t.Fatalf("Fair(%d, %v, %v, %d) is %v, not %v", procs, demand, prio, turn, l, wanted)
	}
}

// refuses asks that there is no answer.
func refuses(t *testing.T, procs int, demand, prio []int, turn int) {
	t.Helper()
	shares(t, procs, demand, prio, turn)
}

// times is one number so many times.
func times(n, x int) []int { return slices.Repeat([]int{x}, n) }

// behind is by how many a space stands behind turn, going on by numbers, round, among all; by numbers without ends.
func behind(n, turn, spaces int) int64 {
	d := new(big.Int).Sub(big.NewInt(int64(n)), big.NewInt(int64(turn)))
	return d.Mod(d, big.NewInt(int64(spaces))).Int64()
}

// sooner: of two spaces that want one more, does the first have it?
func sooner(a, b int, prio, has []int, turn int) bool {
	switch {
	case prio[a] != prio[b]:
		return prio[a] > prio[b]
	case has[a] != has[b]:
		return has[a] < has[b]
	}
	return behind(a, turn, len(prio)) < behind(b, turn, len(prio))
}

// byOne is what is fair, with each processor handed out by itself to who is first of all that want one more.
func byOne(procs int, demand, prio []int, turn int) []int {
	has := make([]int, len(demand))
	for range procs {
		best := -1
		for n := range demand {
			if has[n] < demand[n] && (best < 0 || sooner(n, best, prio, has, turn)) {
				best = n
			}
		}
		if best < 0 {
			break
		}
		has[best]++
	}
	return has
}

// allowed: may it be asked at all?
func allowed(procs int, demand, prio []int) bool {
	among := func(p int) bool { return p < 0 || p > api.MaxPrio }
	return len(prio) == len(demand) && len(demand) <= api.MaxSpaces && procs >= 0 && procs <= api.MaxProcs && !slices.ContainsFunc(prio, among)
}

// follows asks for what follows from what is promised.
func follows(t *testing.T, procs int, demand, prio []int, turn int, l []int) {
	t.Helper()
	left := procs
	for n, x := range l {
		left -= x
		if x < 0 || x > max(0, demand[n]) {
			t.Fatalf("Fair(%d, %v, %v, %d) is %v: space %d has too many or too few", procs, demand, prio, turn, l, n)
		}
	}
	for n, x := range l {
		if left < 0 || left > 0 && x < demand[n] {
			t.Fatalf("Fair(%d, %v, %v, %d) is %v: %d are left", procs, demand, prio, turn, l, left)
		}
		for m, y := range l {
			if prio[m] == prio[n] && x < demand[n] && y > x+1 || prio[m] < prio[n] && x < demand[n] && y > 0 {
				t.Fatalf("Fair(%d, %v, %v, %d) is %v: %d is not fair to %d", procs, demand, prio, turn, l, m, n)
			}
		}
	}
}

// held asks for what byOne is, and what follows, or for no answer.
func held(t *testing.T, procs int, demand, prio []int, turn int) {
	t.Helper()
	if !allowed(procs, demand, prio) {
		refuses(t, procs, demand, prio, turn)
		return
	}
	shares(t, procs, demand, prio, turn, byOne(procs, demand, prio, turn)...)
	follows(t, procs, demand, prio, turn, share.Fair(procs, demand, prio, turn))
}

// ends are numbers at their ends, and beside what is allowed.
func ends() []int {
	return []int{math.MinInt, math.MinInt + 1, math.MinInt32, -65, -9, -8, -1, 0, 1, 7, 8, 9, 63, 64, 65, math.MaxInt32, math.MaxInt - 1, math.MaxInt}
}
