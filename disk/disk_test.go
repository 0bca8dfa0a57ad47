package disk_test

import (
	"math"
	"slices"
	"testing"

	"drawknife/api"
	"drawknife/disk"
)

// read is a request to read a block.
func read(who, block int) disk.Request { return disk.Request{Who: who, Block: block} }

// write is a request to write a block.
func write(who, block int, x uint64) disk.Request {
	return disk.Request{Who: who, Block: block, Write: true, X: x}
}

// asks asks what a request is answered when it comes.
func asks(t *testing.T, d *disk.Disk, r disk.Request, wanted api.Errno) {
	t.Helper()
	if e := d.Ask(r); e != wanted {
		t.Fatalf("Ask(%+v) is %d, not %d", r, e, wanted)
	}
}

// does asks which request is done, and what was read.
func does(t *testing.T, d *disk.Disk, k int, wanted disk.Request, wantedX uint64) {
	t.Helper()
	if r, x, ok := d.Done(k); r != wanted || x != wantedX || !ok {
		t.Fatalf("Done(%d) is %+v, %d, %t; not %+v, %d, true", k, r, x, ok, wanted, wantedX)
	}
}

// doesNothing asks that no request is done.
func doesNothing(t *testing.T, d *disk.Disk, k int) {
	t.Helper()
	if r, x, ok := d.Done(k); r != (disk.Request{}) || x != 0 || ok {
		t.Fatalf("Done(%d) is %+v, %d, %t", k, r, x, ok)
	}
}

// hasBlocks asks what is in all blocks, and that there are no others.
func hasBlocks(t *testing.T, d *disk.Disk, blocks ...uint64) {
	t.Helper()
	for n, wanted := range blocks {
		if x, ok := d.Block(n); x != wanted || !ok {
			t.Fatalf("Block(%d) is %d, %t; not %d, true", n, x, ok, wanted)
		}
	}
	count := len(blocks)
	for _, n := range []int{math.MinInt, math.MinInt + 1, -api.MaxBlocks, -1, count, count + 1, api.MaxBlocks, 1 << 32, math.MaxInt} {
		if x, ok := d.Block(n); x != 0 || ok {
			t.Fatalf("of %d blocks Block(%d) is %d, %t", count, n, x, ok)
		}
	}
}

// waits asks which requests wait, in order.
func waits(t *testing.T, d *disk.Disk, wanted ...disk.Request) {
	t.Helper()
	if is := d.Wait(); !slices.Equal(is, wanted) {
		t.Fatalf("Wait is %+v, not %+v", is, wanted)
	}
}

// isNew asks that a disk has so many blocks that have 0, that just these may be asked for, and that nothing waits.
func isNew(t *testing.T, d *disk.Disk, count int) {
	t.Helper()
	if d == nil {
		t.Fatal("nil")
	}
	waits(t, d)
	doesNothing(t, d, 0)
	hasBlocks(t, d, make([]uint64, count)...)
	for _, block := range []int{math.MinInt, -1, count, api.MaxBlocks, math.MaxInt} {
		asks(t, d, read(1, block), api.ErrArg)
		asks(t, d, write(1, block, 5), api.ErrArg)
	}
	waits(t, d)
	wanted := make([]uint64, count)
	for block := range count {
		x := uint64(1000 + block)
		asks(t, d, write(1, block, x), api.OK)
		does(t, d, 0, write(1, block, x), 0)
		wanted[block] = x
		hasBlocks(t, d, wanted...)
	}
	for block := range count {
		asks(t, d, read(1, block), api.OK)
		does(t, d, 0, read(1, block), wanted[block])
	}
	waits(t, d)
	hasBlocks(t, d, wanted...)
}

// P8.1: New has blocks from 0 to MaxBlocks (below as 0, above as that), which have 0, and no requests.
func TestNew(t *testing.T) {
	for count := 0; count <= api.MaxBlocks; count++ {
		isNew(t, disk.New(count), count)
	}
	for _, blocks := range []int{-1, -2, -api.MaxBlocks, math.MinInt + 1, math.MinInt} {
		isNew(t, disk.New(blocks), 0)
	}
	for _, blocks := range []int{api.MaxBlocks + 1, 2 * api.MaxBlocks, 1 << 32, math.MaxInt - 1, math.MaxInt} {
		isNew(t, disk.New(blocks), api.MaxBlocks)
	}
}

// P8.1 with R1: a disk that nobody made has no blocks.
func TestUnmadeDisk(t *testing.T) { isNew(t, new(disk.Disk), 0) }

// P8.1: requests wait in the order in which they came, whatever they want.
func TestRequestsInOrder(t *testing.T) {
	d := disk.New(4)
	list := []disk.Request{write(7, 3, 5), read(2, 3), read(9, 0), write(1, 3, 5), write(4, 1, 0)}
	for n, r := range list {
		asks(t, d, r, api.OK)
		waits(t, d, list[:n+1]...)
	}
	hasBlocks(t, d, 0, 0, 0, 0)
}

// P8.1: nothing is done to a block until its request is, and then in the order in which they are done.
func TestDoneInAnyOrder(t *testing.T) {
	d := disk.New(2)
	first, second, third := write(1, 1, 11), write(2, 1, 22), read(3, 1)
	asks(t, d, first, api.OK)
	asks(t, d, second, api.OK)
	asks(t, d, third, api.OK)
	hasBlocks(t, d, 0, 0)
	does(t, d, 1, second, 0)
	hasBlocks(t, d, 0, 22)
	waits(t, d, first, third)
	does(t, d, 1, third, 22)
	hasBlocks(t, d, 0, 22)
	waits(t, d, first)
	does(t, d, 0, first, 0)
	hasBlocks(t, d, 0, 11)
	waits(t, d)
	doesNothing(t, d, 0)
}

// P8.1: a block that was read stays as it is, and a request to read that carries a word writes none.
func TestReadWritesNothing(t *testing.T) {
	d := disk.New(2)
	asks(t, d, write(1, 0, math.MaxUint64), api.OK)
	does(t, d, 0, write(1, 0, math.MaxUint64), 0)
	carries := disk.Request{Who: 2, Block: 0, X: 9}
	for range 3 {
		asks(t, d, carries, api.OK)
		waits(t, d, carries)
		does(t, d, 0, carries, math.MaxUint64)
		hasBlocks(t, d, math.MaxUint64, 0)
	}
}

// P8.1: 0 is answered for a write, whatever the block had; and 0 may be written over what it had.
func TestWriteAnswersNothing(t *testing.T) {
	d := disk.New(1)
	for _, x := range []uint64{5, 0, math.MaxUint64, 1 << 63, 0, 1} {
		asks(t, d, write(1, 0, x), api.OK)
		does(t, d, 0, write(1, 0, x), 0)
		hasBlocks(t, d, x)
		asks(t, d, read(1, 0), api.OK)
		does(t, d, 0, read(1, 0), x)
	}
}

// P8.1: a request of someone whose request waits is refused, wherever that is, and whatever either wants; behind Done they may ask again.
func TestWhoWaits(t *testing.T) {
	d := disk.New(3)
	list := []disk.Request{read(5, 0), write(6, 1, 60), read(7, 2)}
	for _, r := range list {
		asks(t, d, r, api.OK)
	}
	for _, r := range list {
		for block := range 3 {
			asks(t, d, read(r.Who, block), api.ErrBusy)
			asks(t, d, write(r.Who, block, 9), api.ErrBusy)
		}
		asks(t, d, r, api.ErrBusy)
		waits(t, d, list...)
	}
	does(t, d, 1, list[1], 0)
	asks(t, d, read(6, 1), api.OK)
	asks(t, d, read(6, 1), api.ErrBusy)
	waits(t, d, list[0], list[2], read(6, 1))
	does(t, d, 0, list[0], 0)
	asks(t, d, write(5, 1, 50), api.OK)
	does(t, d, 1, read(6, 1), 60)
	does(t, d, 1, write(5, 1, 50), 0)
	does(t, d, 0, list[2], 0)
	waits(t, d)
	hasBlocks(t, d, 0, 50, 0)
}

// P8.1 with R2: no such block comes ahead of a request that waits.
func TestWhichError(t *testing.T) {
	d := disk.New(3)
	asks(t, d, read(1, 2), api.OK)
	for _, block := range []int{math.MinInt, -3, -1, 3, 4, api.MaxBlocks, math.MaxInt} {
		asks(t, d, read(1, block), api.ErrArg)
		asks(t, d, write(1, block, 1), api.ErrArg)
		asks(t, d, read(2, block), api.ErrArg)
	}
	asks(t, d, read(1, 0), api.ErrBusy)
	asks(t, d, read(2, 0), api.OK)
	waits(t, d, read(1, 2), read(2, 0))
}

// waitAll is a disk at which so many wait, each with a block of their own to write.
func waitAll(t *testing.T, count int) (*disk.Disk, []disk.Request) {
	t.Helper()
	d := disk.New(count)
	var list []disk.Request
	for n := range count {
		r := write(10+n, n, uint64(100+n))
		asks(t, d, r, api.OK)
		list = append(list, r)
	}
	return d, list
}

// rest is k by count, not below 0, by counting alone: for numbers that are not far from 0.
func rest(k, count int) int {
	for k < 0 {
		k += count
	}
	for k >= count {
		k -= count
	}
	return k
}

// P8.1: Done takes the request k by how many there are, as a rest that is not below 0; the others stay in their order.
func TestWhichIsDone(t *testing.T) {
	for count := 1; count <= 7; count++ {
		for k := -30; k <= 30; k++ {
			d, list := waitAll(t, count)
			at := rest(k, count)
			does(t, d, k, list[at], 0)
			waits(t, d, slices.Concat(list[:at], list[at+1:])...)
			wanted := make([]uint64, count)
			wanted[at] = uint64(100 + at)
			hasBlocks(t, d, wanted...)
		}
	}
}

// P8.1 with R1: the rest of numbers at their ends. The most is 2^63 - 1, the least -2^63.
func TestWhichIsDoneAtTheEnds(t *testing.T) {
	for _, c := range []struct{ count, k, at int }{
		{1, math.MaxInt, 0}, {1, math.MinInt, 0},
		{2, math.MaxInt, 1}, {2, math.MinInt, 0},
		{3, math.MaxInt, 1}, {3, math.MinInt, 1},
		{4, math.MaxInt, 3}, {4, math.MinInt, 0},
		{5, math.MaxInt, 2}, {5, math.MinInt, 2},
		{7, math.MaxInt, 0}, {7, math.MinInt, 6},
		{64, math.MaxInt, 63}, {64, math.MinInt, 0},
		{3, math.MaxInt - 1, 0}, {3, math.MinInt + 1, 2},
		{3, 1 << 32, 1}, {3, -(1 << 32), 2},
	} {
		d, list := waitAll(t, c.count)
		does(t, d, c.k, list[c.at], 0)
	}
}

// P8.1: where none waits none is done, whatever the number.
func TestNoneWaits(t *testing.T) {
	d := disk.New(2)
	for _, k := range []int{math.MinInt, -1, 0, 1, 2, math.MaxInt} {
		doesNothing(t, d, k)
		asks(t, d, write(1, 1, 5), api.OK)
		does(t, d, k, write(1, 1, 5), 0)
		doesNothing(t, d, k)
		hasBlocks(t, d, 0, 5)
	}
}

// P8.1 with R1: who at the ends of numbers are as others are, and 0 is someone.
func TestWhoAtTheEnds(t *testing.T) {
	d := disk.New(1)
	var list []disk.Request
	for n, who := range []int{0, math.MinInt, -1, math.MaxInt, 1} {
		r := write(who, 0, math.MaxUint64-uint64(n))
		asks(t, d, r, api.OK)
		asks(t, d, r, api.ErrBusy)
		list = append(list, r)
	}
	waits(t, d, list...)
	for n, r := range list {
		asks(t, d, r, api.ErrBusy)
		does(t, d, 0, r, 0)
		waits(t, d, list[n+1:]...)
		hasBlocks(t, d, r.X)
	}
}

// P8.1: a disk that is nil refuses all and has nothing.
func TestNilDisk(t *testing.T) {
	var d *disk.Disk
	for _, n := range []int{math.MinInt, -1, 0, 1, math.MaxInt} {
		asks(t, d, read(1, n), api.ErrArg)
		asks(t, d, write(n, 0, 5), api.ErrArg)
		doesNothing(t, d, n)
		waits(t, d)
		hasBlocks(t, d)
	}
}

// spoil writes over a list, spare room included.
func spoil(list []disk.Request) {
	whole := list[:cap(list)]
	for at := range whole {
		whole[at] = read(77, 77)
	}
}

// P8.1 with R4: what is answered is the caller's own, spare room included.
func TestAnswersAreNewMemory(t *testing.T) {
	d, list := waitAll(t, 5)
	spoil(d.Wait())
	waits(t, d, list...)
	_ = append(d.Wait()[:2], read(77, 77), read(77, 77))
	waits(t, d, list...)
	one, other := d.Wait(), d.Wait()
	spoil(one)
	if !slices.Equal(other, list) {
		t.Fatal(other)
	}
	for n, r := range list {
		does(t, d, 0, r, 0)
		waits(t, d, list[n+1:]...)
	}
}

// P8.1 with R4: what was answered stays, whatever is done to the disk later.
func TestAnswersStay(t *testing.T) {
	d, list := waitAll(t, 5)
	is := d.Wait()
	does(t, d, 1, list[1], 0)
	does(t, d, 0, list[0], 0)
	asks(t, d, read(3, 0), api.OK)
	asks(t, d, read(4, 0), api.OK)
	if !slices.Equal(is, list) {
		t.Fatal(is)
	}
	waits(t, d, list[2], list[3], list[4], read(3, 0), read(4, 0))
}

// P8.1 with R4: an answer of none is not the row that comes to be later.
func TestAnswerOfNoneIsNewMemory(t *testing.T) {
	d := disk.New(1)
	asks(t, d, read(1, 0), api.OK)
	does(t, d, 0, read(1, 0), 0)
	none := d.Wait()
	asks(t, d, read(2, 0), api.OK)
	_ = append(none, read(77, 77))
	waits(t, d, read(2, 0))
}

// P8.1 with R5: disks have blocks and requests of their own.
func TestDisksAreApart(t *testing.T) {
	a, b := disk.New(2), disk.New(2)
	asks(t, a, write(1, 0, 5), api.OK)
	waits(t, b)
	asks(t, b, write(1, 1, 6), api.OK)
	does(t, a, 0, write(1, 0, 5), 0)
	hasBlocks(t, a, 5, 0)
	hasBlocks(t, b, 0, 0)
	waits(t, b, write(1, 1, 6))
	does(t, b, 0, write(1, 1, 6), 0)
	hasBlocks(t, a, 5, 0)
	hasBlocks(t, b, 0, 6)
}

// P8.1: who waits has no most: thousands do, at one block, and are done in any order.
func TestManyWait(t *testing.T) {
	const many = 2000
	d := disk.New(1)
	for n := range many {
		asks(t, d, write(n, 0, uint64(n)), api.OK)
	}
	for n := range many {
		// Now the last, now the first.
		who, k := n/2, 0
		if n%2 == 0 {
			who, k = many-1-n/2, -1
		}
		does(t, d, k, write(who, 0, uint64(who)), 0)
		hasBlocks(t, d, uint64(who))
	}
	waits(t, d)
}

// told is a disk by all that was ever asked for, and which of that was done in which order. It has no blocks, and no row that goes on.
type told struct {
	blocks int
	asked  []disk.Request
	done   []int
}

// waiting is which of what was asked for waits.
func (h *told) waiting() []int {
	var all []int
	for n := range h.asked {
		if !slices.Contains(h.done, n) {
			all = append(all, n)
		}
	}
	return all
}

// has is what the last write that was done to a block wrote.
func (h *told) has(block int) uint64 {
	for at := len(h.done) - 1; at >= 0; at-- {
		if r := h.asked[h.done[at]]; r.Write && r.Block == block {
			return r.X
		}
	}
	return 0
}

// ask is what Ask is to answer.
func (h *told) ask(r disk.Request) api.Errno {
	if r.Block < 0 || r.Block >= h.blocks {
		return api.ErrArg
	}
	for _, n := range h.waiting() {
		if h.asked[n].Who == r.Who {
			return api.ErrBusy
		}
	}
	h.asked = append(h.asked, r)
	return api.OK
}

// end is what Done is to answer.
func (h *told) end(k int) (disk.Request, uint64, bool) {
	all := h.waiting()
	if len(all) == 0 {
		return disk.Request{}, 0, false
	}
	n := all[rest(k, len(all))]
	h.done = append(h.done, n)
	if r := h.asked[n]; r.Write {
		return r, 0, true
	}
	return h.asked[n], h.has(h.asked[n].Block), true
}

// same asks that a disk is as was told of it.
func same(t *testing.T, d *disk.Disk, h *told) {
	t.Helper()
	var list []disk.Request
	for _, n := range h.waiting() {
		list = append(list, h.asked[n])
	}
	waits(t, d, list...)
	blocks := make([]uint64, h.blocks)
	for n := range blocks {
		blocks[n] = h.has(n)
	}
	hasBlocks(t, d, blocks...)
}

// bothAsk has a request come to both.
func bothAsk(t *testing.T, d *disk.Disk, h *told, r disk.Request) {
	t.Helper()
	asks(t, d, r, h.ask(r))
	same(t, d, h)
}

// bothEnd has a request done by both.
func bothEnd(t *testing.T, d *disk.Disk, h *told, k int) {
	t.Helper()
	if r, x, ok := h.end(k); ok {
		does(t, d, k, r, x)
	} else {
		doesNothing(t, d, k)
	}
	same(t, d, h)
}

// P8.1: all short runs of three, each of which reads or writes either of two blocks, with ends of either side.
func TestAllShortRuns(t *testing.T) {
	const calls, length = 9, 5
	runs := 1
	for range length {
		runs *= calls
	}
	for run := range runs {
		d, h := disk.New(2), &told{blocks: 2}
		for n, left := 0, run; n < length; n, left = n+1, left/calls {
			switch c := left % calls; c {
			case 6, 7, 8:
				bothEnd(t, d, h, c-7)
			default:
				bothAsk(t, d, h, disk.Request{Who: c / 2, Block: (c + n) % 2, Write: c%2 == 0, X: uint64(n + 1)})
			}
		}
	}
}

// P8.1: long runs, now more that ask, now more that are done.
func TestLongRuns(t *testing.T) {
	const people = 24
	x := uint64(7)
	next := func(n uint64) int {
		x = x*6364136223846793005 + 1442695040888963407
		return int(x >> 33 % n)
	}
	for _, blocks := range []int{0, 1, 2, 5, api.MaxBlocks} {
		for range 8 {
			d, h := disk.New(blocks), &told{blocks: blocks}
			for n := range 250 {
				if oftenAsks := n/50%2 == 0; next(4) > 0 == oftenAsks {
					r := disk.Request{Who: next(people) - people/2, Block: next(uint64(blocks)+2) - 1, Write: next(2) == 0, X: uint64(next(5))<<62 + uint64(n)}
					bothAsk(t, d, h, r)
				} else {
					bothEnd(t, d, h, next(100)-50)
				}
			}
		}
	}
}
