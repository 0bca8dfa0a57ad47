package wheel

import (
	"slices"
	"testing"

	"drawknife/api"
)

// late is a wheel so many moments ahead of the last one: nobody can tick it there.
func late(ahead int) *Wheel {
	w := New()
	w.now = api.MaxTime - ahead
	return w
}

// due asks whom Tick answers, and that it is then so many moments ahead of the last one.
func due(t *testing.T, w *Wheel, ahead int, wanted ...int) {
	t.Helper()
	if all := w.Tick(); !slices.Equal(all, wanted) {
		t.Fatalf("Tick is %v, not %v", all, wanted)
	}
	if w.Now() != api.MaxTime-ahead {
		t.Fatalf("Now is %d", w.Now())
	}
}

// P6.1: the clock stays at MaxTime.
func TestClockStaysAtMaxTime(t *testing.T) {
	w := late(2)
	due(t, w, 1)
	due(t, w, 0)
	due(t, w, 0)
	due(t, w, 0)
}

// P6.1: who would wait until later than MaxTime is due when the clock comes there.
func TestDueAtMaxTime(t *testing.T) {
	w := late(2)
	for who, n := range []int{api.MaxTime, 1, 2, 3} {
		if e := w.Sleep(who, n); e != api.OK {
			t.Fatal(who, e)
		}
	}
	due(t, w, 1, 1)
	for _, who := range []int{0, 2, 3} {
		if until, ok := w.Waiting(who); until != api.MaxTime || !ok {
			t.Fatal(who, until, ok)
		}
	}
	due(t, w, 0, 0, 2, 3)
	due(t, w, 0)
}

// P6.1: at MaxTime who sleeps waits until that moment, and the next tick, though it moves nothing, finds them due.
func TestSleepAtMaxTime(t *testing.T) {
	w := late(0)
	for _, who := range []int{8, 5} {
		if e := w.Sleep(who, 1+(who-5)*1000); e != api.OK {
			t.Fatal(who, e)
		}
		if until, ok := w.Waiting(who); until != api.MaxTime || !ok {
			t.Fatal(who, until, ok)
		}
		if e := w.Sleep(who, 1); e != api.ErrBusy {
			t.Fatal(who, e)
		}
	}
	due(t, w, 0, 5, 8)
	due(t, w, 0)
}
