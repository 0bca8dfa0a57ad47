package match_test

import (
	"math"
	"slices"
	"testing"

	"drawknife/api"
	"drawknife/match"
)

// P20.1: nil and empty lists are the same, and none that has a record.
func TestSameOfNothing(t *testing.T) {
	nothing := [][]api.Record{nil, {}, make([]api.Record, 3)[:0], make([]api.Record, 0, 9)}
	for _, a := range nothing {
		for _, b := range nothing {
			alike(t, a, b)
		}
		differ(t, a, []api.Record{{}})
		differ(t, a, []api.Record{record(first, api.Print, 1, 2)})
		differ(t, a, make([]api.Record, 300))
	}
}

// P20.1: lists are the same, if each record of the one is that of the other, wherever they lie.
func TestSame(t *testing.T) {
	list := []api.Record{record(first, api.Print, 1, 2), {}, {Thread: second, Op: api.Read, X: 3}, {Op: -1, Result: -1}}
	alike(t, list, list)
	alike(t, list, slices.Clone(list))
	alike(t, list[:2], append(slices.Clone(list), list...)[:2])
	alike(t, list, append(make([]api.Record, 0, 50), list...))
	alike(t, []api.Record{{}}, make([]api.Record, 1))
}

// P20.1: a list that goes on is another, also where it goes on with nothing, or the same again.
func TestSameLengths(t *testing.T) {
	list := []api.Record{record(first, api.Print, 1, 2), record(first, api.Print, 1, 2), record(second, api.Print, 5, 0)}
	for count := range list {
		differ(t, list[:count], list)
		differ(t, list[count+1:], list)
		differ(t, list[:count], append(slices.Clone(list[:count]), api.Record{}))
	}
	differ(t, list, append(slices.Clone(list), list[2]))
	differ(t, make([]api.Record, 256), make([]api.Record, 512))
	differ(t, make([]api.Record, 1), make([]api.Record, 1+1<<16))
}

// P20.1: order counts, and how often one comes.
func TestSameOrder(t *testing.T) {
	a, b, c := record(first, api.Print, 1, 0), record(first, api.Print, 2, 0), record(second, api.Print, 1, 0)
	differ(t, []api.Record{a, b}, []api.Record{b, a})
	differ(t, []api.Record{a, b, c}, []api.Record{b, c, a})
	differ(t, []api.Record{a, a, b}, []api.Record{a, b, b})
	differ(t, []api.Record{a, b, a, c}, []api.Record{a, c, a, b})
}

// others is records that are not the one, each by one field.
func others(r api.Record) []api.Record {
	var list []api.Record
	for _, bit := range []int{0, 1, 7, 8, 31, 32, 33, 62, 63} {
		word, number := uint64(1)<<bit, int(uint64(1)<<bit)
		list = append(list,
			api.Record{Thread: r.Thread ^ word, Op: r.Op, X: r.X, Y: r.Y, Result: r.Result, End: r.End},
			api.Record{Thread: r.Thread, Op: r.Op ^ number, X: r.X, Y: r.Y, Result: r.Result, End: r.End},
			api.Record{Thread: r.Thread, Op: r.Op, X: r.X ^ word, Y: r.Y, Result: r.Result, End: r.End},
			api.Record{Thread: r.Thread, Op: r.Op, X: r.X, Y: r.Y ^ word, Result: r.Result, End: r.End},
			api.Record{Thread: r.Thread, Op: r.Op, X: r.X, Y: r.Y, Result: r.Result ^ api.Errno(number), End: r.End})
	}
	return append(list, api.Record{Thread: r.Thread, Op: r.Op, X: r.X, Y: r.Y, Result: r.Result, End: !r.End})
}

// P20.1: each field counts, wherever in a list the record is, also at the ends of numbers.
func TestSameFields(t *testing.T) {
	for _, r := range []api.Record{{}, record(first, api.Print, 1, 2), {Thread: math.MaxUint64, Op: math.MinInt, X: math.MaxUint64, Y: 1 << 63, Result: math.MaxInt}} {
		for _, other := range others(r) {
			for count := 1; count <= 4; count++ {
				for at := range count {
					list := slices.Repeat([]api.Record{r}, count)
					list[at] = other
					differ(t, list, slices.Repeat([]api.Record{r}, count))
				}
			}
		}
	}
}

// P20.1: words that are no numbers with a point are words as others are.
func TestSameNoNumbers(t *testing.T) {
	for _, word := range []uint64{math.Float64bits(math.NaN()), 0x7ff8000000000001, 0xfff0000000000001, 1 << 63} {
		alike(t, []api.Record{{X: word, Y: word}}, []api.Record{{X: word, Y: word}})
	}
	differ(t, []api.Record{{X: 1 << 63}}, []api.Record{{X: 0}})
}

// P20.1 and R4: lists are not changed, nor what lies beside them, which does not count.
func TestSameChangesNothing(t *testing.T) {
	a := []api.Record{{X: 1}, {X: 2}, {X: 3}}
	b := []api.Record{{X: 1}, {X: 2}, {X: 4}}
	alike(t, a[:2], b[:2])
	differ(t, a[:2], b[:1])
	if !slices.Equal(a, []api.Record{{X: 1}, {X: 2}, {X: 3}}) || !slices.Equal(b, []api.Record{{X: 1}, {X: 2}, {X: 4}}) || match.Same(a, b) {
		t.Errorf("they are %v and %v", a, b)
	}
}
