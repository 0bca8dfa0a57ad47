package tube_test

import (
	"math"
	"slices"
	"testing"

	"drawknife/api"
	"drawknife/tube"
)

// puts asks that a word goes in, or that it does not, and that nobody is given it.
func puts(t *testing.T, p *tube.Tube, who int, x uint64, done bool) {
	t.Helper()
	if ok, getter, given := p.Put(who, x); ok != done || getter != 0 || given {
		t.Fatalf("Put(%d, %d) is %t, %d, %t; not %t, 0, false", who, x, ok, getter, given, done)
	}
}

// putsTo asks that a word goes to someone who waited.
func putsTo(t *testing.T, p *tube.Tube, who int, x uint64, wanted int) {
	t.Helper()
	if ok, getter, given := p.Put(who, x); !ok || getter != wanted || !given {
		t.Fatalf("Put(%d, %d) is %t, %d, %t; not true, %d, true", who, x, ok, getter, given, wanted)
	}
}

// gets asks that a word comes out, and that nobody waited to put.
func gets(t *testing.T, p *tube.Tube, who int, wanted uint64) {
	t.Helper()
	if x, ok, putter, moved := p.Get(who); x != wanted || !ok || putter != 0 || moved {
		t.Fatalf("Get(%d) is %d, %t, %d, %t; not %d, true, 0, false", who, x, ok, putter, moved, wanted)
	}
}

// getsFor asks that a word comes out, and whose word goes in behind.
func getsFor(t *testing.T, p *tube.Tube, who int, wanted uint64, behind int) {
	t.Helper()
	if x, ok, putter, moved := p.Get(who); x != wanted || !ok || putter != behind || !moved {
		t.Fatalf("Get(%d) is %d, %t, %d, %t; not %d, true, %d, true", who, x, ok, putter, moved, wanted, behind)
	}
}

// getsNothing asks that nothing comes out.
func getsNothing(t *testing.T, p *tube.Tube, who int) {
	t.Helper()
	if x, ok, putter, moved := p.Get(who); x != 0 || ok || putter != 0 || moved {
		t.Fatalf("Get(%d) is %d, %t, %d, %t", who, x, ok, putter, moved)
	}
}

// holds asks what is in it and who waits, in order.
func holds(t *testing.T, p *tube.Tube, words []uint64, putters, getters []int) {
	t.Helper()
	if is := p.Words(); !slices.Equal(is, words) {
		t.Fatalf("Words is %v, not %v", is, words)
	}
	if is := p.Putters(); !slices.Equal(is, putters) {
		t.Fatalf("Putters is %v, not %v", is, putters)
	}
	if is := p.Getters(); !slices.Equal(is, getters) {
		t.Fatalf("Getters is %v, not %v", is, getters)
	}
}

// P7.1: New has no words, and nobody waits.
func TestNewHasNothing(t *testing.T) {
	for _, room := range []int{math.MinInt, -1, 0, 1, 2, api.MaxPipe, api.MaxPipe + 1, math.MaxInt} {
		p := tube.New(room)
		if p == nil {
			t.Fatal("nil")
		}
		holds(t, p, nil, nil, nil)
	}
}

// hasRoomFor asks that just so many words go in until one waits, and that they come out as they went in.
func hasRoomFor(t *testing.T, p *tube.Tube, room int) {
	t.Helper()
	var words []uint64
	for n := range room {
		puts(t, p, 5, uint64(100+n), true)
		words = append(words, uint64(100+n))
		holds(t, p, words, nil, nil)
	}
	puts(t, p, 6, 200, false)
	holds(t, p, words, []int{6}, nil)
	getsFor(t, p, 5, words[0], 6)
	words = append(words[1:], 200)
	holds(t, p, words, nil, nil)
	for n, x := range words {
		gets(t, p, 5, x)
		holds(t, p, words[n+1:], nil, nil)
	}
	getsNothing(t, p, 5)
	holds(t, p, nil, nil, []int{5})
}

// P7.1: room from 1 to MaxPipe, below as 1, above as MaxPipe.
func TestRoom(t *testing.T) {
	for room := 1; room <= api.MaxPipe; room++ {
		hasRoomFor(t, tube.New(room), room)
	}
	for _, room := range []int{0, -1, -api.MaxPipe, math.MinInt + 1, math.MinInt} {
		hasRoomFor(t, tube.New(room), 1)
	}
	for _, room := range []int{api.MaxPipe + 1, 2 * api.MaxPipe, 1 << 32, math.MaxInt - 1, math.MaxInt} {
		hasRoomFor(t, tube.New(room), api.MaxPipe)
	}
}

// P7.1 with R1: a tube that nobody made is one with the least room.
func TestUnmadeTube(t *testing.T) {
	p := new(tube.Tube)
	holds(t, p, nil, nil, nil)
	hasRoomFor(t, p, 1)
	getsNothing(t, new(tube.Tube), 5)
}

// P7.1: with room, words go in behind, whoever puts them, and come out from ahead, whoever gets them.
func TestWordsInOrder(t *testing.T) {
	p := tube.New(3)
	puts(t, p, 1, 30, true)
	puts(t, p, 1, 10, true)
	puts(t, p, 2, 30, true)
	holds(t, p, []uint64{30, 10, 30}, nil, nil)
	gets(t, p, 1, 30)
	holds(t, p, []uint64{10, 30}, nil, nil)
	puts(t, p, 7, 5, true)
	holds(t, p, []uint64{10, 30, 5}, nil, nil)
	gets(t, p, 2, 10)
	gets(t, p, 2, 30)
	gets(t, p, 2, 5)
	holds(t, p, nil, nil, nil)
}

// P7.1: without room they wait to put, behind each other, and their words come in one by one, as others go.
func TestPuttersInOrder(t *testing.T) {
	p := tube.New(2)
	puts(t, p, 1, 11, true)
	puts(t, p, 2, 22, true)
	for _, who := range []int{9, 3, 6} {
		puts(t, p, who, uint64(who*11), false)
	}
	holds(t, p, []uint64{11, 22}, []int{9, 3, 6}, nil)
	getsFor(t, p, 1, 11, 9)
	holds(t, p, []uint64{22, 99}, []int{3, 6}, nil)
	puts(t, p, 1, 12, false)
	holds(t, p, []uint64{22, 99}, []int{3, 6, 1}, nil)
	getsFor(t, p, 2, 22, 3)
	getsFor(t, p, 2, 99, 6)
	holds(t, p, []uint64{33, 66}, []int{1}, nil)
	getsFor(t, p, 2, 33, 1)
	holds(t, p, []uint64{66, 12}, nil, nil)
	gets(t, p, 2, 66)
	gets(t, p, 2, 12)
	holds(t, p, nil, nil, nil)
}

// P7.1: where there is no word they wait to get, behind each other; who puts gives to the first, and nothing stays in it.
func TestGettersInOrder(t *testing.T) {
	p := tube.New(1)
	for _, who := range []int{8, 2, 5} {
		getsNothing(t, p, who)
	}
	holds(t, p, nil, nil, []int{8, 2, 5})
	putsTo(t, p, 1, 10, 8)
	holds(t, p, nil, nil, []int{2, 5})
	getsNothing(t, p, 8)
	holds(t, p, nil, nil, []int{2, 5, 8})
	putsTo(t, p, 1, 20, 2)
	putsTo(t, p, 2, 30, 5)
	putsTo(t, p, 5, 40, 8)
	holds(t, p, nil, nil, nil)
	puts(t, p, 8, 50, true)
	puts(t, p, 1, 60, false)
	holds(t, p, []uint64{50}, []int{1}, nil)
}

// P7.1: who waits to put may neither put nor get, wherever in the row they are; their word stays the one that they came with.
func TestWhoWaitsToPut(t *testing.T) {
	p := tube.New(1)
	puts(t, p, 1, 10, true)
	for _, who := range []int{2, 3, 4} {
		puts(t, p, who, uint64(who*10), false)
	}
	for _, who := range []int{2, 3, 4} {
		puts(t, p, who, 99, false)
		getsNothing(t, p, who)
		holds(t, p, []uint64{10}, []int{2, 3, 4}, nil)
	}
	getsFor(t, p, 1, 10, 2)
	getsFor(t, p, 2, 20, 3)
	puts(t, p, 4, 99, false)
	holds(t, p, []uint64{30}, []int{4}, nil)
	getsFor(t, p, 2, 30, 4)
	gets(t, p, 4, 40)
	holds(t, p, nil, nil, nil)
}

// P7.1: who waits to get may neither get nor put, not even to others that wait.
func TestWhoWaitsToGet(t *testing.T) {
	p := tube.New(2)
	for _, who := range []int{2, 3, 4} {
		getsNothing(t, p, who)
	}
	for _, who := range []int{2, 3, 4} {
		getsNothing(t, p, who)
		puts(t, p, who, 99, false)
		holds(t, p, nil, nil, []int{2, 3, 4})
	}
	putsTo(t, p, 1, 10, 2)
	putsTo(t, p, 2, 20, 3)
	puts(t, p, 4, 99, false)
	holds(t, p, nil, nil, []int{4})
	putsTo(t, p, 3, 30, 4)
	puts(t, p, 4, 40, true)
	holds(t, p, []uint64{40}, nil, nil)
}

// P7.1 with R1: who and words at their ends are as others are, and 0 is someone, and a word.
func TestNumbersAtTheirEnds(t *testing.T) {
	all := []int{0, math.MinInt, -1, math.MaxInt}
	words := []uint64{math.MaxUint64, 0, 1 << 63, 1<<63 - 1}
	p := tube.New(1)
	puts(t, p, 0, words[0], true)
	for n, who := range all {
		puts(t, p, who, words[(n+1)%4], false)
	}
	holds(t, p, words[:1], all, nil)
	for n, who := range all {
		puts(t, p, who, 7, false)
		getsNothing(t, p, who)
		getsFor(t, p, 1, words[n], who)
	}
	gets(t, p, 1, words[0])
	for _, who := range all {
		getsNothing(t, p, who)
		getsNothing(t, p, who)
		puts(t, p, who, 7, false)
	}
	holds(t, p, nil, nil, all)
	for n, who := range all {
		putsTo(t, p, 1, words[n], who)
	}
	holds(t, p, nil, nil, nil)
}

// P7.2: a tube that is nil takes nothing and has nothing.
func TestNilTube(t *testing.T) {
	var p *tube.Tube
	for _, who := range []int{math.MinInt, -1, 0, 1, math.MaxInt} {
		puts(t, p, who, 5, false)
		getsNothing(t, p, who)
		puts(t, p, who, math.MaxUint64, false)
		holds(t, p, nil, nil, nil)
	}
}

// spoil writes over a list, spare room included.
func spoil[T any](list []T, with T) {
	whole := list[:cap(list)]
	for at := range whole {
		whole[at] = with
	}
}

// P7.2 with R4: what is answered is the caller's own, spare room included.
func TestAnswersAreNewMemory(t *testing.T) {
	full, empty := tube.New(5), tube.New(5)
	words, waiting := []uint64{0, 1, 2, 3, 4}, []int{10, 11, 12, 13, 14}
	for _, x := range words {
		puts(t, full, 1, x, true)
	}
	for _, who := range waiting {
		puts(t, full, who, uint64(who), false)
		getsNothing(t, empty, who)
	}
	spoil(full.Words(), 77)
	spoil(full.Putters(), 77)
	spoil(empty.Getters(), 77)
	holds(t, full, words, waiting, nil)
	holds(t, empty, nil, nil, waiting)
	_ = append(full.Words()[:2], 77, 77)
	_ = append(full.Putters()[:2], 77, 77)
	_ = append(empty.Getters()[:2], 77, 77)
	holds(t, full, words, waiting, nil)
	holds(t, empty, nil, nil, waiting)
}

// P7.2 with R4: what was answered stays, whatever is done to the tube later.
func TestAnswersStay(t *testing.T) {
	full, empty := tube.New(2), tube.New(2)
	puts(t, full, 1, 10, true)
	puts(t, full, 1, 20, true)
	for _, who := range []int{3, 4} {
		puts(t, full, who, uint64(who*10), false)
		getsNothing(t, empty, who)
	}
	words, putters, getters := full.Words(), full.Putters(), empty.Getters()
	getsFor(t, full, 1, 10, 3)
	getsFor(t, full, 1, 20, 4)
	puts(t, full, 5, 50, false)
	putsTo(t, empty, 1, 60, 3)
	getsNothing(t, empty, 6)
	if !slices.Equal(words, []uint64{10, 20}) || !slices.Equal(putters, []int{3, 4}) || !slices.Equal(getters, []int{3, 4}) {
		t.Fatal(words, putters, getters)
	}
	holds(t, full, []uint64{30, 40}, []int{5}, nil)
	holds(t, empty, nil, nil, []int{4, 6})
}

// P7.2 with R4: what is left of an answer of none is not the row that comes to be later.
func TestAnswersOfNoneAreNewMemory(t *testing.T) {
	p := tube.New(1)
	puts(t, p, 1, 10, true)
	puts(t, p, 2, 20, false)
	getsFor(t, p, 1, 10, 2)
	gets(t, p, 1, 20)
	getsNothing(t, p, 1)
	putsTo(t, p, 2, 30, 1)
	words, putters, getters := p.Words(), p.Putters(), p.Getters()
	puts(t, p, 3, 40, true)
	puts(t, p, 4, 50, false)
	_ = append(words, 77)
	_ = append(putters, 77)
	holds(t, p, []uint64{40}, []int{4}, nil)
	getsFor(t, p, 3, 40, 4)
	gets(t, p, 3, 50)
	getsNothing(t, p, 3)
	_ = append(getters, 77)
	holds(t, p, nil, nil, []int{3})
}

// P7.1 with R5: who waits at one tube may put and get at another.
func TestTubesAreApart(t *testing.T) {
	a, b := tube.New(1), tube.New(1)
	puts(t, a, 1, 10, true)
	puts(t, a, 2, 20, false)
	getsNothing(t, b, 2)
	holds(t, a, []uint64{10}, []int{2}, nil)
	holds(t, b, nil, nil, []int{2})
	putsTo(t, b, 1, 30, 2)
	puts(t, b, 2, 40, true)
	holds(t, a, []uint64{10}, []int{2}, nil)
	holds(t, b, []uint64{40}, nil, nil)
}

// sent is a word, and who put it.
type sent struct {
	who int
	x   uint64
}

// told is a tube by all that was ever put and asked for: the n-th that is asked for is the n-th that was put. It has no rows that go on.
type told struct {
	room  int
	sent  []sent
	asked []int
}

// met is how many words were put and asked for.
func (h *told) met() int { return min(len(h.sent), len(h.asked)) }

// state is what is in it and who waits.
func (h *told) state() (words []uint64, putters, getters []int) {
	for n, s := range h.sent[h.met():] {
		if n < h.room {
			words = append(words, s.x)
		} else {
			putters = append(putters, s.who)
		}
	}
	return words, putters, h.asked[h.met():]
}

// waits: does someone wait?
func (h *told) waits(who int) bool {
	_, putters, getters := h.state()
	return slices.Contains(putters, who) || slices.Contains(getters, who)
}

// put is what Put is to answer.
func (h *told) put(who int, x uint64) (bool, int, bool) {
	if h.waits(who) {
		return false, 0, false
	}
	h.sent = append(h.sent, sent{who, x})
	if at := len(h.sent) - 1; at < len(h.asked) {
		return true, h.asked[at], true
	}
	return len(h.sent) <= len(h.asked)+h.room, 0, false
}

// get is what Get is to answer.
func (h *told) get(who int) (uint64, bool, int, bool) {
	if h.waits(who) {
		return 0, false, 0, false
	}
	at := len(h.asked)
	h.asked = append(h.asked, who)
	switch {
	case at >= len(h.sent):
		return 0, false, 0, false
	case at+h.room < len(h.sent):
		return h.sent[at].x, true, h.sent[at+h.room].who, true
	default:
		return h.sent[at].x, true, 0, false
	}
}

// both does one call on the tube and on what was told of it, and asks that they come to the same.
func both(t *testing.T, p *tube.Tube, h *told, isPut bool, who int, x uint64) {
	t.Helper()
	if isPut {
		wantOK, wantGetter, wantGiven := h.put(who, x)
		if ok, getter, given := p.Put(who, x); ok != wantOK || getter != wantGetter || given != wantGiven {
			t.Fatalf("room %d: Put(%d, %d) is %t, %d, %t; not %t, %d, %t", h.room, who, x, ok, getter, given, wantOK, wantGetter, wantGiven)
		}
	} else {
		wantX, wantOK, wantPutter, wantMoved := h.get(who)
		if got, ok, putter, moved := p.Get(who); got != wantX || ok != wantOK || putter != wantPutter || moved != wantMoved {
			t.Fatalf("room %d: Get(%d) is %d, %t, %d, %t; not %d, %t, %d, %t", h.room, who, got, ok, putter, moved, wantX, wantOK, wantPutter, wantMoved)
		}
	}
	words, putters, getters := h.state()
	holds(t, p, words, putters, getters)
	nobodyWaitsInVain(t, p, h.room)
}

// nobodyWaitsInVain asks what follows from the promises.
func nobodyWaitsInVain(t *testing.T, p *tube.Tube, room int) {
	t.Helper()
	words, putters, getters := len(p.Words()), len(p.Putters()), len(p.Getters())
	if words > room || words < room && putters > 0 || words > 0 && getters > 0 {
		t.Fatalf("room %d: %d words, %d wait to put, %d to get", room, words, putters, getters)
	}
}

// P7.1, P7.2: all short runs of three, each of which puts or gets.
func TestAllShortRuns(t *testing.T) {
	const calls, length = 6, 6
	runs := 1
	for range length {
		runs *= calls
	}
	for room := 1; room <= 2; room++ {
		for run := range runs {
			p, h := tube.New(room), &told{room: room}
			for n, rest := 0, run; n < length; n, rest = n+1, rest/calls {
				both(t, p, h, rest%2 == 0, rest%calls/2, uint64(n+1))
			}
		}
	}
}

// P7.1, P7.2: long runs at each room, now more that put, now more that get.
func TestLongRuns(t *testing.T) {
	const people = 24
	x := uint64(7)
	next := func(n uint64) uint64 {
		x = x*6364136223846793005 + 1442695040888963407
		return x >> 33 % n
	}
	for room := 1; room <= api.MaxPipe; room++ {
		p, h := tube.New(room), &told{room: room}
		for n := range 6000 {
			oftenPuts := n/200%2 == 0
			isPut := next(4) > 0 == oftenPuts
			both(t, p, h, isPut, int(next(people))-people/2, next(5)*(1<<62)+uint64(n))
		}
	}
}

// P7.1: who waits has no most: thousands do, and come to their turns in order.
func TestManyWait(t *testing.T) {
	const many = 3000
	p := tube.New(api.MaxPipe)
	for n := range many {
		getsNothing(t, p, n)
	}
	for n := range many {
		putsTo(t, p, many, uint64(n), n)
	}
	for n := range api.MaxPipe {
		puts(t, p, many, uint64(n), true)
	}
	for n := range many {
		puts(t, p, n, uint64(api.MaxPipe+n), false)
	}
	for n := range many {
		getsFor(t, p, many, uint64(n), n)
	}
	for n := range api.MaxPipe {
		gets(t, p, many, uint64(many+n))
	}
	holds(t, p, nil, nil, nil)
}
