package num

import (
	"math"
	"math/big"
	"testing"
)

const (
	plusNought  = uint64(0)
	minusNought = uint64(1) << 63
	plusEnd     = uint64(0x7ff0000000000000)
	minusEnd    = uint64(0xfff0000000000000)
	noNumber    = uint64(0x7ff8000000000000)
	leastWord   = uint64(1)                  // the least number above 0
	lastSub     = uint64(0x000fffffffffffff) // the greatest of those below the normal ones
	firstNormal = uint64(0x0010000000000000)
	greatest    = uint64(0x7fefffffffffffff)
)

func w(f float64) uint64 { return math.Float64bits(f) }

// nones are words that are no numbers: quiet and signalling ones, of both signs.
func nones() []uint64 {
	return []uint64{noNumber, 0xfff8000000000000, 0x7ff0000000000001, 0xfff0000000000001, 0x7fffffffffffffff, 0xffffffffffffffff, 0x7ff4000000000000, 0xfff8000000000007}
}

// ordered are numbers, each less than the next one (but -0 and 0, which stand in the order of Min and Max).
func ordered() []uint64 {
	up := []uint64{leastWord, 2, lastSub, firstNormal, w(0x1p-1000), w(1e-10), w(0.1), w(0.5), 0x3fefffffffffffff, w(1), 0x3ff0000000000001,
		w(1.5), w(2), w(2.5), w(3), w(1 << 32), w(1<<53 - 1), w(1 << 53), w(1<<53 + 2), w(1 << 62), 0x43dfffffffffffff, w(1 << 63), w(0x1p64), w(1e300), greatest, plusEnd}
	var all []uint64
	for i := len(up) - 1; i >= 0; i-- {
		all = append(all, up[i]|minusNought)
	}
	return append(append(all, minusNought, plusNought), up...)
}

// spread mixes a number's bits (a fixed rule, so that each run tries the same words).
func spread(n uint64) uint64 {
	n *= 0x9e3779b97f4a7c15
	n = (n ^ n>>30) * 0xbf58476d1ce4e5b9
	n = (n ^ n>>27) * 0x94d049bb133111eb
	return n ^ n>>31
}

// words are those of ordered and of nones, and many more of all sizes.
func words() []uint64 {
	all := append(ordered(), nones()...)
	for n := range uint64(60) {
		x := spread(n + 1)
		near := x&^(0x7ff<<52) | (1023+n%8)<<52 // exponents near to each other, so that sums have to be rounded
		all = append(all, x, near, x&(minusNought|lastSub))
	}
	return all
}

func isNone(a uint64) bool   { return a&^minusNought > plusEnd }
func isEnd(a uint64) bool    { return a&^minusNought == plusEnd }
func isNought(a uint64) bool { return a&^minusNought == 0 }

func ratio(a uint64) *big.Rat { return new(big.Rat).SetFloat64(math.Float64frombits(a)) }

// rounded is a ratio as a word, to the nearest, of two the even one; a nought gets the sign that is handed in.
func rounded(r *big.Rat, sign uint64) uint64 {
	f, _ := r.Float64()
	if f == 0 {
		return sign
	}
	return w(f)
}

// sum, product, quotient say by ratios and cases, without the machine's own numbers, what IEEE 754 asks.
func sum(a, b uint64) uint64 {
	switch {
	case isNone(a) || isNone(b) || isEnd(a) && isEnd(b) && a != b:
		return noNumber
	case isEnd(a):
		return a
	case isEnd(b):
		return b
	}
	return rounded(new(big.Rat).Add(ratio(a), ratio(b)), a&b&minusNought) // a sum of 0 is -0 of two -0 alone
}

func product(a, b uint64) uint64 {
	sign := (a ^ b) & minusNought
	switch {
	case isNone(a) || isNone(b) || isEnd(a) && isNought(b) || isNought(a) && isEnd(b):
		return noNumber
	case isEnd(a) || isEnd(b):
		return plusEnd | sign
	}
	return rounded(new(big.Rat).Mul(ratio(a), ratio(b)), sign)
}

func quotient(a, b uint64) uint64 {
	sign := (a ^ b) & minusNought
	switch {
	case isNone(a) || isNone(b) || isEnd(a) && isEnd(b) || isNought(a) && isNought(b):
		return noNumber
	case isEnd(a) || isNought(b):
		return plusEnd | sign
	case isEnd(b):
		return sign
	}
	return rounded(new(big.Rat).Quo(ratio(a), ratio(b)), sign)
}

// P1.1, all of it, against ratios.
func TestArithmeticAgainstRatios(t *testing.T) {
	all := words()
	for _, a := range all {
		for _, b := range all {
			minus := b
			if !isNone(b) {
				minus ^= minusNought
			}
			for _, c := range []struct {
				name      string
				got, want uint64
			}{
				{"Add", Add(a, b), sum(a, b)},
				{"Sub", Sub(a, b), sum(a, minus)},
				{"Mul", Mul(a, b), product(a, b)},
				{"Div", Div(a, b), quotient(a, b)},
			} {
				if c.got != c.want {
					t.Fatalf("%s(%x, %x): %x, not %x", c.name, a, b, c.got, c.want)
				}
			}
		}
	}
}

type pair struct{ a, b, want uint64 }

func tryPairs(t *testing.T, name string, f func(a, b uint64) uint64, pairs []pair) {
	t.Helper()
	for _, p := range pairs {
		if got := f(p.a, p.b); got != p.want {
			t.Errorf("%s(%x, %x): %x, not %x", name, p.a, p.b, got, p.want)
		}
	}
}

// P1.1: ordinary words and edges, with answers written out.
func TestArithmeticEdges(t *testing.T) {
	one := w(1)
	tryPairs(t, "Add", Add, []pair{
		{w(1), w(2), w(3)}, {w(0.1), w(0.2), 0x3fd3333333333334}, {w(-1), w(1), plusNought},
		{plusNought, minusNought, plusNought}, {minusNought, plusNought, plusNought}, {minusNought, minusNought, minusNought}, {plusNought, plusNought, plusNought},
		{plusEnd, minusEnd, noNumber}, {minusEnd, plusEnd, noNumber}, {plusEnd, plusEnd, plusEnd}, {minusEnd, one, minusEnd}, {greatest, greatest, plusEnd},
		{w(1 << 53), one, w(1 << 53)}, {w(1<<53 + 2), one, w(1<<53 + 4)}, // half way: the even one
		{leastWord, leastWord, 2}, {lastSub, leastWord, firstNormal},
	})
	tryPairs(t, "Sub", Sub, []pair{
		{w(5), w(7), w(-2)}, {w(7), w(7), plusNought}, {minusNought, plusNought, minusNought}, {minusNought, minusNought, plusNought}, {plusNought, plusNought, plusNought},
		{plusEnd, plusEnd, noNumber}, {minusEnd, minusEnd, noNumber}, {plusEnd, minusEnd, plusEnd}, {one, plusEnd, minusEnd}, {firstNormal, leastWord, lastSub},
	})
	tryPairs(t, "Mul", Mul, []pair{
		{w(3), w(-4), w(-12)}, {minusNought, w(5), minusNought}, {minusNought, w(-5), plusNought}, {w(-2), plusNought, minusNought},
		{plusNought, plusEnd, noNumber}, {minusEnd, plusNought, noNumber}, {plusEnd, w(-1), minusEnd}, {greatest, w(2), plusEnd}, {greatest, w(-2), minusEnd},
		{leastWord, w(0.5), plusNought}, {leastWord | minusNought, w(0.5), minusNought}, {3, w(0.5), 2}, // half way: the even one
	})
	tryPairs(t, "Div", Div, []pair{
		{w(1), w(3), 0x3fd5555555555555}, {w(-6), w(3), w(-2)}, {one, plusNought, plusEnd}, {one, minusNought, minusEnd}, {w(-1), plusNought, minusEnd},
		{plusNought, plusNought, noNumber}, {minusNought, plusNought, noNumber}, {plusEnd, plusEnd, noNumber}, {plusEnd, minusEnd, noNumber},
		{one, minusEnd, minusNought}, {plusNought, w(-1), minusNought}, {minusEnd, plusNought, minusEnd}, {leastWord, w(2), plusNought}, {greatest, leastWord, plusEnd},
	})
}

// P1.1: what is no number is answered as the one that the chapter names, whatever its bits were and wherever it stood.
func TestNoNumberIsOne(t *testing.T) {
	for _, f := range []func(a, b uint64) uint64{Add, Sub, Mul, Div, Min, Max} {
		for _, n := range nones() {
			for _, a := range words() {
				if f(a, n) != noNumber || f(n, a) != noNumber {
					t.Fatalf("%x, %x: %x, %x", a, n, f(a, n), f(n, a))
				}
			}
		}
	}
}

// P1.1: a product is rounded ahead of a sum, and not taken together with it.
func TestProductIsRounded(t *testing.T) {
	x := w(1 + 0x1p-30)
	if got := Sub(Mul(x, x), w(1+0x1p-29)); got != plusNought {
		t.Errorf("%x", got)
	}
}

// P1.2: Min, Max and Less by a list that stands in order.
func TestOrder(t *testing.T) {
	all := ordered()
	for i, a := range all {
		for j, b := range all {
			if Min(a, b) != all[min(i, j)] || Max(a, b) != all[max(i, j)] {
				t.Errorf("%x, %x: Min %x, Max %x", a, b, Min(a, b), Max(a, b))
			}
			want := i < j && !(isNought(a) && isNought(b))
			if Less(a, b) != want {
				t.Errorf("Less(%x, %x): %v", a, b, !want)
			}
		}
	}
}

// P1.2: nothing is less than what is no number, nor is that less than anything.
func TestLessOfNoNumber(t *testing.T) {
	for _, n := range nones() {
		for _, a := range words() {
			if Less(a, n) || Less(n, a) {
				t.Errorf("Less of %x and %x", a, n)
			}
		}
	}
}

// P1.2: ToInt at ordinary words and at the ends.
func TestToInt(t *testing.T) {
	const least, last = uint64(1) << 63, uint64(1)<<63 - 1
	for _, c := range []struct{ a, want uint64 }{
		{w(0.9), 0}, {w(-0.9), 0}, {w(2.5), 2}, {w(2.9), 2}, {w(3.5), 3}, {w(-2.9), 1<<64 - 2}, {w(-3), 1<<64 - 3}, {w(1e15), 1000000000000000},
		{plusNought, 0}, {minusNought, 0}, {leastWord, 0}, {leastWord | minusNought, 0},
		{w(1 << 62), 1 << 62}, {0x43dfffffffffffff, 1<<63 - 1024}, {w(1 << 63), last}, {w(0x1p64), last}, {w(1e300), last}, {greatest, last}, {plusEnd, last},
		{0xc3dfffffffffffff, 1<<63 + 1024}, {w(-1 << 63), least}, {0xc3e0000000000001, least}, {w(-1e300), least}, {minusEnd, least},
	} {
		if got := ToInt(c.a); got != c.want {
			t.Errorf("ToInt(%x): %x, not %x", c.a, got, c.want)
		}
	}
	for _, n := range nones() {
		if got := ToInt(n); got != 0 {
			t.Errorf("ToInt(%x): %x", n, got)
		}
	}
}

// P1.2: ToInt against whole ratios.
func TestToIntAgainstRatios(t *testing.T) {
	for n := range uint64(3000) {
		x := spread(n + 1)
		a := x&^(0x7ff<<52) | (1020+n%70)<<52 // from below 1 to beyond 64 bits
		r := ratio(a)
		want := new(big.Int).Quo(r.Num(), r.Denom())
		if !want.IsInt64() {
			want.SetInt64(math.MaxInt64)
			if a&minusNought != 0 {
				want.SetInt64(math.MinInt64)
			}
		}
		if got := ToInt(a); got != uint64(want.Int64()) {
			t.Fatalf("ToInt(%x): %x, not %x", a, got, want.Int64())
		}
	}
}

// P1.2: ToFloat at ordinary numbers, at the ends, and half way between two words.
func TestToFloat(t *testing.T) {
	for _, c := range []struct{ a, want uint64 }{
		{0, plusNought}, {1, w(1)}, {7, w(7)}, {1<<64 - 1, w(-1)}, {1<<64 - 3, w(-3)}, {1 << 53, w(1 << 53)},
		{1<<53 + 1, w(1 << 53)}, {1<<53 + 2, w(1<<53 + 2)}, {1<<53 + 3, w(1<<53 + 4)}, {1<<64 - 1<<53 - 1, w(-1 << 53)}, {1<<64 - 1<<53 - 3, w(-(1<<53 + 4))},
		{1<<63 - 1, w(1 << 63)}, {1<<63 - 512, w(1 << 63)}, {1<<63 - 513, 0x43dfffffffffffff}, {1 << 63, w(-1 << 63)}, {1<<63 + 1, w(-1 << 63)},
	} {
		if got := ToFloat(c.a); got != c.want {
			t.Errorf("ToFloat(%x): %x, not %x", c.a, got, c.want)
		}
	}
	for n := range uint64(3000) {
		a := uint64(int64(spread(n+1)) >> (n % 64))
		if got, want := ToFloat(a), rounded(new(big.Rat).SetInt64(int64(a)), plusNought); got != want {
			t.Fatalf("ToFloat(%x): %x, not %x", a, got, want)
		}
	}
}

// P1.2: Kind of each kind, of both signs, and at the ends of each.
func TestKind(t *testing.T) {
	for _, a := range words() {
		want := 0
		switch {
		case isNought(a):
			want = 1
		case isEnd(a):
			want = 2
		case isNone(a):
			want = 3
		}
		if got := Kind(a); got != want {
			t.Errorf("Kind(%x): %d, not %d", a, got, want)
		}
	}
	for i, list := range [][]uint64{{w(5), w(-5), leastWord, lastSub, firstNormal, greatest, greatest | minusNought}, {plusNought, minusNought}, {plusEnd, minusEnd}, nones()} {
		for _, a := range list {
			if got := Kind(a); got != i {
				t.Errorf("Kind(%x): %d, not %d", a, got, i)
			}
		}
	}
}
