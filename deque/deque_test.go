package deque_test

import (
	"math"
	"slices"
	"testing"

	"drawknife/deque"
)

// row is a deque of numbers that came behind, one by one.
func row(t *testing.T, numbers ...int) *deque.Deque {
	t.Helper()
	d := deque.New()
	for _, n := range numbers {
		if !d.Push(n) {
			t.Fatalf("Push(%d) is false", n)
		}
	}
	return d
}

// holds asks that a deque holds these, in this order.
func holds(t *testing.T, d *deque.Deque, numbers ...int) {
	t.Helper()
	if all := d.All(); !slices.Equal(all, numbers) {
		t.Fatalf("All is %v, not %v", all, numbers)
	}
}

// gives asks what a call that takes one answers.
func gives(t *testing.T, take func() (int, bool), number int, there bool) {
	t.Helper()
	if n, ok := take(); n != number || ok != there {
		t.Fatalf("%d, %t; not %d, %t", n, ok, number, there)
	}
}

// hasNothing asks that there is nothing to take, and nothing to drop.
func hasNothing(t *testing.T, d *deque.Deque) {
	t.Helper()
	gives(t, d.Pop, 0, false)
	gives(t, d.PopBack, 0, false)
	for _, n := range []int{math.MinInt, -1, 0, 1, math.MaxInt} {
		if d.Drop(n) {
			t.Fatalf("Drop(%d) is true", n)
		}
	}
	holds(t, d)
}

// P5.1: New has none, and is a deque that takes numbers; so is one that nobody made.
func TestNewHasNone(t *testing.T) {
	for _, d := range []*deque.Deque{deque.New(), new(deque.Deque)} {
		if d == nil {
			t.Fatal("nil")
		}
		hasNothing(t, d)
		if !d.Push(5) {
			t.Fatal("Push")
		}
		holds(t, d, 5)
	}
}

// P5.1: Push comes behind, PushFront ahead, also into a row that has none.
func TestPushBehindAndAhead(t *testing.T) {
	holds(t, row(t, 3, 1, 2), 3, 1, 2)
	d := deque.New()
	for _, n := range []int{3, 1, 2} {
		if !d.PushFront(n) {
			t.Fatal(n)
		}
	}
	holds(t, d, 2, 1, 3)
	if !d.Push(0) || !d.PushFront(9) || !d.Push(-4) {
		t.Fatal("false")
	}
	holds(t, d, 9, 2, 1, 3, 0, -4)
}

// P5.1: a number that is there comes neither behind nor ahead, wherever it is, and nothing moves.
func TestPushOfOneThatIsThere(t *testing.T) {
	d := row(t, 4, 0, -1, 7)
	for _, n := range []int{4, 0, -1, 7} {
		if d.Push(n) {
			t.Errorf("Push(%d) is true", n)
		}
		holds(t, d, 4, 0, -1, 7)
		if d.PushFront(n) {
			t.Errorf("PushFront(%d) is true", n)
		}
		holds(t, d, 4, 0, -1, 7)
	}
}

// P5.1: Pop is the first, PopBack the last, and of one number both are that one; then there is none.
func TestPopAtBothEnds(t *testing.T) {
	d := row(t, 1, 2, 3, 4)
	gives(t, d.Pop, 1, true)
	holds(t, d, 2, 3, 4)
	gives(t, d.PopBack, 4, true)
	holds(t, d, 2, 3)
	gives(t, d.PopBack, 3, true)
	gives(t, d.Pop, 2, true)
	hasNothing(t, d)

	last := row(t, 6)
	gives(t, last.PopBack, 6, true)
	hasNothing(t, last)
	zero := row(t, 0)
	gives(t, zero.Pop, 0, true)
	gives(t, zero.Pop, 0, false)
}

// P5.1: Drop takes one from any place and leaves the others in order; a second time it is not there.
func TestDropAtEachPlace(t *testing.T) {
	for _, c := range []struct {
		n    int
		rest []int
	}{{5, []int{6, 7, 8}}, {6, []int{5, 7, 8}}, {7, []int{5, 6, 8}}, {8, []int{5, 6, 7}}} {
		d := row(t, 5, 6, 7, 8)
		if !d.Drop(c.n) {
			t.Errorf("Drop(%d) is false", c.n)
		}
		holds(t, d, c.rest...)
		if d.Drop(c.n) {
			t.Errorf("Drop(%d) is true once more", c.n)
		}
		holds(t, d, c.rest...)
	}
	d := row(t, 5, 6)
	for _, n := range []int{math.MinInt, -5, -1, 0, 1, 2, 4, 7, math.MaxInt} {
		if d.Drop(n) {
			t.Errorf("Drop(%d) is true", n)
		}
	}
	holds(t, d, 5, 6)
}

// P5.1: one that went, by whatever call, may come again, at either end.
func TestOneThatWentComesAgain(t *testing.T) {
	d := row(t, 1, 2, 3)
	gives(t, d.Pop, 1, true)
	if !d.Push(1) {
		t.Error("Push")
	}
	holds(t, d, 2, 3, 1)
	gives(t, d.PopBack, 1, true)
	if !d.PushFront(1) {
		t.Error("PushFront")
	}
	holds(t, d, 1, 2, 3)
	if !d.Drop(2) || !d.Push(2) {
		t.Error("Drop, Push")
	}
	holds(t, d, 1, 3, 2)
}

// P5.1 with R1: numbers at their ends are numbers as others are.
func TestNumbersAtTheirEnds(t *testing.T) {
	d := row(t, math.MaxInt, math.MinInt, -1, 0)
	if d.Push(math.MinInt) || d.PushFront(math.MaxInt) || d.PushFront(-1) || d.Push(0) {
		t.Error("twice")
	}
	gives(t, d.Pop, math.MaxInt, true)
	if !d.Drop(-1) || !d.Drop(0) {
		t.Error("Drop")
	}
	gives(t, d.PopBack, math.MinInt, true)
	hasNothing(t, d)
}

// P5.1: a deque that is nil takes nothing and has nothing.
func TestNilDeque(t *testing.T) {
	var d *deque.Deque
	for _, n := range []int{math.MinInt, -1, 0, 1, math.MaxInt} {
		if d.Push(n) || d.PushFront(n) {
			t.Error(n)
		}
	}
	hasNothing(t, d)
}

// P5.1 with R4: what All answers is the caller's own, spare room included.
func TestAllIsNewMemory(t *testing.T) {
	d := row(t, 1, 2, 3, 4, 5)
	first, second := d.All(), d.All()
	first[0] = 9
	_ = append(first[:2], 9, 9, 9)
	_ = append(first, 9)
	if !slices.Equal(second, []int{1, 2, 3, 4, 5}) {
		t.Error(second)
	}
	holds(t, d, 1, 2, 3, 4, 5)

	gives(t, d.Pop, 1, true)
	gives(t, d.PopBack, 5, true)
	if !d.Drop(3) || !d.PushFront(7) || !d.Push(8) {
		t.Error("false")
	}
	if !slices.Equal(second, []int{1, 2, 3, 4, 5}) {
		t.Error(second)
	}

	short := d.All()
	_ = append(short[:0], 6, 6, 6, 6)
	for k := range short[:cap(short)] {
		short[:cap(short)][k] = 6
	}
	holds(t, d, 7, 2, 4, 8)
}

// P5.1 with R4: what is left of an answer of none is not the row that comes to be later.
func TestAllOfNoneIsNewMemory(t *testing.T) {
	d := row(t, 1, 2)
	d.Pop()
	d.Pop()
	none := d.All()
	if !d.Push(3) {
		t.Fatal("Push")
	}
	_ = append(none, 9, 9)
	holds(t, d, 3)
}

// P5.1 with R5: what one deque holds, another does not.
func TestDequesAreApart(t *testing.T) {
	a, b := deque.New(), deque.New()
	if !a.Push(1) || !b.Push(1) || !b.PushFront(2) {
		t.Fatal("false")
	}
	holds(t, a, 1)
	holds(t, b, 2, 1)
	gives(t, a.Pop, 1, true)
	holds(t, b, 2, 1)
}

// held is a deque by where each number is: the greater, the farther behind. It shares nothing with how a list does it.
type held struct {
	at          map[int]int
	first, last int
}

// come puts a number at a place beyond all others.
func (h *held) come(n int, ahead bool) bool {
	if _, there := h.at[n]; there {
		return false
	}
	if ahead {
		h.first--
		h.at[n] = h.first
	} else {
		h.last++
		h.at[n] = h.last
	}
	return true
}

// all is the numbers by their places.
func (h *held) all() []int {
	var all []int
	for n := range h.at {
		all = append(all, n)
	}
	slices.SortFunc(all, func(a, b int) int { return h.at[a] - h.at[b] })
	return all
}

// end is the number at an end.
func (h *held) end(last bool) (int, bool) {
	all := h.all()
	if len(all) == 0 {
		return 0, false
	}
	if last {
		return all[len(all)-1], true
	}
	return all[0], true
}

// drop takes a number away.
func (h *held) drop(n int) bool {
	_, there := h.at[n]
	delete(h.at, n)
	return there
}

// P5.1: long runs of all calls, held against the places of the numbers.
func TestLongRuns(t *testing.T) {
	for numbers := 1; numbers <= 24; numbers++ {
		h := &held{at: map[int]int{}}
		d := deque.New()
		x := uint64(numbers)
		for range 3000 {
			x = x*6364136223846793005 + 1442695040888963407
			n := int(x>>33%uint64(numbers)) - numbers/2
			switch call := x >> 60 % 8; call {
			case 0, 1:
				if is, want := d.Push(n), h.come(n, false); is != want {
					t.Fatalf("Push(%d) is %t", n, is)
				}
			case 2, 3:
				if is, want := d.PushFront(n), h.come(n, true); is != want {
					t.Fatalf("PushFront(%d) is %t", n, is)
				}
			case 4, 5:
				want, there := h.end(call == 5)
				gives(t, []func() (int, bool){d.Pop, d.PopBack}[call-4], want, there)
				if there {
					h.drop(want)
				}
			default:
				if is, want := d.Drop(n), h.drop(n); is != want {
					t.Fatalf("Drop(%d) is %t", n, is)
				}
			}
			holds(t, d, h.all()...)
		}
	}
}

// P5.1: a row has no most: thousands come at either end, and go in order.
func TestManyNumbers(t *testing.T) {
	const many = 5000
	d := deque.New()
	for n := range many {
		if !d.Push(n) || !d.PushFront(-1-n) {
			t.Fatal(n)
		}
	}
	if all := d.All(); len(all) != 2*many || !slices.IsSorted(all) {
		t.Fatal(len(all))
	}
	for n := range many {
		gives(t, d.Pop, n-many, true)
		gives(t, d.PopBack, many-1-n, true)
	}
	hasNothing(t, d)
}
