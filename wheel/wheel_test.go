package wheel_test

import (
	"math"
	"slices"
	"testing"

	"drawknife/api"
	"drawknife/wheel"
)

// sleeps asks what Sleep answers.
func sleeps(t *testing.T, w *wheel.Wheel, who, n int, wanted api.Errno) {
	t.Helper()
	if e := w.Sleep(who, n); e != wanted {
		t.Fatalf("Sleep(%d, %d) is %d, not %d", who, n, e, wanted)
	}
}

// ticks asks whom Tick answers, and which moment it is then.
func ticks(t *testing.T, w *wheel.Wheel, now int, due ...int) {
	t.Helper()
	if all := w.Tick(); !slices.Equal(all, due) {
		t.Fatalf("Tick is %v, not %v", all, due)
	}
	if n := w.Now(); n != now {
		t.Fatalf("Now is %d, not %d", n, now)
	}
}

// waits asks until when someone waits.
func waits(t *testing.T, w *wheel.Wheel, who, until int) {
	t.Helper()
	if n, ok := w.Waiting(who); n != until || !ok {
		t.Fatalf("Waiting(%d) is %d, %t; not %d, true", who, n, ok, until)
	}
}

// waitsNot asks that they do not wait.
func waitsNot(t *testing.T, w *wheel.Wheel, all ...int) {
	t.Helper()
	for _, who := range all {
		if n, ok := w.Waiting(who); n != 0 || ok {
			t.Fatalf("Waiting(%d) is %d, %t", who, n, ok)
		}
	}
}

// P6.1: New is at moment 0 and nobody waits; so is a wheel that nobody made. Moments go by though nobody waits.
func TestNewIsAtMomentZero(t *testing.T) {
	for _, w := range []*wheel.Wheel{wheel.New(), new(wheel.Wheel)} {
		if w == nil {
			t.Fatal("nil")
		}
		if w.Now() != 0 {
			t.Fatal(w.Now())
		}
		waitsNot(t, w, math.MinInt, -1, 0, 1, math.MaxInt)
		ticks(t, w, 1)
		ticks(t, w, 2)
		sleeps(t, w, 6, 1, api.OK)
		waits(t, w, 6, 3)
		ticks(t, w, 3, 6)
		ticks(t, w, 4)
	}
}

// P6.1: someone waits until so many moments from now, no sooner and no later, and then no more.
func TestSleepUntilTheMoment(t *testing.T) {
	w := wheel.New()
	sleeps(t, w, 1, 3, api.OK)
	waits(t, w, 1, 3)
	ticks(t, w, 1)
	sleeps(t, w, 2, 1, api.OK)
	waits(t, w, 2, 2)
	waits(t, w, 1, 3)
	ticks(t, w, 2, 2)
	waitsNot(t, w, 2)
	waits(t, w, 1, 3)
	ticks(t, w, 3, 1)
	waitsNot(t, w, 1, 2)
	ticks(t, w, 4)
}

// P6.1: to sleep and to ask are no moments.
func TestOnlyTickMovesTheClock(t *testing.T) {
	w := wheel.New()
	ticks(t, w, 1)
	sleeps(t, w, 1, 5, api.OK)
	sleeps(t, w, 1, 5, api.ErrBusy)
	sleeps(t, w, 2, 0, api.ErrArg)
	waits(t, w, 1, 6)
	waitsNot(t, w, 2)
	if w.Now() != 1 || w.Now() != 1 {
		t.Fatal(w.Now())
	}
}

// P6.1: who is due at one moment is answered rising, whenever and in whatever order they began.
func TestTickIsRising(t *testing.T) {
	w := wheel.New()
	sleeps(t, w, 7, 3, api.OK)
	sleeps(t, w, -2, 3, api.OK)
	sleeps(t, w, math.MaxInt, 3, api.OK)
	sleeps(t, w, 100, 4, api.OK)
	ticks(t, w, 1)
	sleeps(t, w, 0, 2, api.OK)
	sleeps(t, w, 9, 2, api.OK)
	ticks(t, w, 2)
	sleeps(t, w, math.MinInt, 1, api.OK)
	sleeps(t, w, 8, 1, api.OK)
	ticks(t, w, 3, math.MinInt, -2, 0, 7, 8, 9, math.MaxInt)
	ticks(t, w, 4, 100)
}

// P6.1: many that are due are rising too, and each is answered once.
func TestTickOfMany(t *testing.T) {
	const many = 500
	w := wheel.New()
	var even, odd []int
	for at := range many {
		who := at * 187 % many // 187 and 500 have no divisor in common: each number comes once
		sleeps(t, w, who, 1+who%2, api.OK)
		if at%2 == 0 {
			even = append(even, at)
		} else {
			odd = append(odd, at)
		}
	}
	ticks(t, w, 1, even...)
	ticks(t, w, 2, odd...)
	ticks(t, w, 3)
}

// P6.1: moments from 1 to MaxTime may be slept, none else, and a refused one leaves nobody waiting.
func TestSleepOfWrongMoments(t *testing.T) {
	w := wheel.New()
	for _, n := range []int{math.MinInt, -api.MaxTime, -2, -1, 0, api.MaxTime + 1, api.MaxTime + 2, math.MaxInt - 1, math.MaxInt} {
		sleeps(t, w, 4, n, api.ErrArg)
		waitsNot(t, w, 4)
	}
	sleeps(t, w, 4, 1, api.OK)
	sleeps(t, w, 5, 2, api.OK)
	sleeps(t, w, 6, api.MaxTime-1, api.OK)
	sleeps(t, w, 7, api.MaxTime, api.OK)
	waits(t, w, 4, 1)
	waits(t, w, 5, 2)
	waits(t, w, 6, api.MaxTime-1)
	waits(t, w, 7, api.MaxTime)
	ticks(t, w, 1, 4)
	ticks(t, w, 2, 5)
	ticks(t, w, 3)
}

// P6.1: nobody waits until later than MaxTime, however late it is.
func TestSleepUntilMaxTimeAtMost(t *testing.T) {
	w := wheel.New()
	ticks(t, w, 1)
	ticks(t, w, 2)
	sleeps(t, w, 1, api.MaxTime-3, api.OK)
	sleeps(t, w, 2, api.MaxTime-2, api.OK)
	sleeps(t, w, 3, api.MaxTime-1, api.OK)
	sleeps(t, w, 4, api.MaxTime, api.OK)
	waits(t, w, 1, api.MaxTime-1)
	waits(t, w, 2, api.MaxTime)
	waits(t, w, 3, api.MaxTime)
	waits(t, w, 4, api.MaxTime)
}

// P6.1: who waits is busy, whoever it is, and waits on as before.
func TestSleepOfOneThatWaits(t *testing.T) {
	w := wheel.New()
	all := []int{math.MinInt, -1, 0, 1, math.MaxInt}
	for _, who := range all {
		sleeps(t, w, who, 2, api.OK)
	}
	for _, who := range all {
		for _, n := range []int{1, 2, 3, api.MaxTime} {
			sleeps(t, w, who, n, api.ErrBusy)
			waits(t, w, who, 2)
		}
	}
	ticks(t, w, 1)
	for _, who := range all {
		sleeps(t, w, who, 1, api.ErrBusy)
	}
	ticks(t, w, 2, all...)
	ticks(t, w, 3)
}

// P6.1 with R2: of one that waits, moments that may not be are ErrArg.
func TestSleepNamesTheArgumentFirst(t *testing.T) {
	w := wheel.New()
	sleeps(t, w, 3, 5, api.OK)
	for _, n := range []int{math.MinInt, -1, 0, api.MaxTime + 1, math.MaxInt} {
		sleeps(t, w, 3, n, api.ErrArg)
	}
	waits(t, w, 3, 5)
}

// P6.1: who was due may wait again, from then on.
func TestSleepOnceMore(t *testing.T) {
	w := wheel.New()
	sleeps(t, w, 3, 1, api.OK)
	ticks(t, w, 1, 3)
	sleeps(t, w, 3, 2, api.OK)
	waits(t, w, 3, 3)
	ticks(t, w, 2)
	ticks(t, w, 3, 3)
	sleeps(t, w, 3, 1, api.OK)
	ticks(t, w, 4, 3)
	waitsNot(t, w, 3)
}

// P6.1: a nil wheel has no moments and nobody who waits.
func TestNilWheel(t *testing.T) {
	var w *wheel.Wheel
	for _, n := range []int{math.MinInt, 0, 1, api.MaxTime, math.MaxInt} {
		sleeps(t, w, 1, n, api.ErrArg)
	}
	waitsNot(t, w, 0, 1)
	ticks(t, w, 0)
	ticks(t, w, 0)
}

// P6.1 with R4: what Tick answered is its caller's, spare room too, and stays as it is.
func TestTickAnswersNewMemory(t *testing.T) {
	w := wheel.New()
	for who := range 3 {
		sleeps(t, w, who, 1, api.OK)
		sleeps(t, w, who+10, 2, api.OK)
	}
	first := w.Tick()
	for at := range first[:cap(first)] {
		first[:cap(first)][at] = 77
	}
	waits(t, w, 10, 2)
	second := w.Tick()
	if !slices.Equal(second, []int{10, 11, 12}) {
		t.Fatal(second)
	}
	if !slices.Equal(first, []int{77, 77, 77}) {
		t.Fatal(first)
	}
	waitsNot(t, w, 77)
}

// P6.1 with R5: wheels know nothing of each other.
func TestWheelsApart(t *testing.T) {
	a, b := wheel.New(), wheel.New()
	sleeps(t, a, 1, 2, api.OK)
	waitsNot(t, b, 1)
	ticks(t, b, 1)
	if a.Now() != 0 {
		t.Fatal(a.Now())
	}
	sleeps(t, b, 1, 3, api.OK)
	waits(t, a, 1, 2)
	ticks(t, a, 1)
	ticks(t, a, 2, 1)
	waits(t, b, 1, 4)
}

// P6.1: long runs come to what a list of the sleepers, looked through from its least, comes to.
func TestLongRuns(t *testing.T) {
	const sleepers = 12
	x := uint64(6)
	next := func(n uint64) int {
		x = x*6364136223846793005 + 1442695040888963407
		return int(x >> 33 % n)
	}
	for range 20 {
		w := wheel.New()
		now := 0
		var until [sleepers]int // 0: does not wait
		for range 2000 {
			if next(3) == 0 {
				now++
				var due []int
				for who, moment := range until {
					if moment == now {
						due = append(due, who)
						until[who] = 0
					}
				}
				ticks(t, w, now, due...)
			} else {
				who, n := next(sleepers), next(9)-1
				wanted := api.OK
				switch {
				case n < 1:
					wanted = api.ErrArg
				case until[who] > 0:
					wanted = api.ErrBusy
				default:
					until[who] = now + n
				}
				sleeps(t, w, who, n, wanted)
			}
			for who, moment := range until {
				if moment > 0 {
					waits(t, w, who, moment)
				} else {
					waitsNot(t, w, who)
				}
			}
		}
	}
}
