package share_test

import (
	"testing"

	"drawknife/api"
)

// dice is a row of numbers by a fixed rule, so that each run of the tests tries the same.
type dice struct{ state uint64 }

// below is a number from 0 on that is less than n.
func (d *dice) below(n int) int {
	d.state = d.state*6364136223846793005 + 1442695040888963407
	return int(d.state>>33) % n
}

// among is a number from one to another.
func (d *dice) among(low, high int) int { return low + d.below(high-low+1) }

// one of a list.
func (d *dice) of(list []int) int { return list[d.below(len(list))] }

// rows calls do with each row of so many numbers from low to high.
func rows(n, low, high int, do func([]int)) {
	row := make([]int, n)
	var fill func(int)
	fill = func(i int) {
		if i == n {
			do(row)
			return
		}
		for x := low; x <= high; x++ {
			row[i] = x
			fill(i + 1)
		}
	}
	fill(0)
}

// P12.1: all that few spaces may ask, held against processors that are handed out one by one.
func TestAllSmallOnes(t *testing.T) {
	for n := range 4 {
		rows(n, -1, 3, func(demand []int) {
			rows(n, 0, 2, func(prio []int) {
				for procs := range 8 {
					for turn := -n; turn <= n; turn++ {
						held(t, procs, demand, prio, turn)
					}
				}
			})
		})
	}
}

// P12.1: many spaces and processors, held against the same.
func TestManyGreatOnes(t *testing.T) {
	d := &dice{state: 12}
	for range 40000 {
		n, highest, most := d.among(0, api.MaxSpaces), d.of([]int{0, 1, 2, 7}), d.of([]int{2, 10, 70})
		demand, prio := make([]int, n), make([]int, n)
		for i := range n {
			demand[i], prio[i] = d.among(-1, most), d.among(0, highest)
			if d.below(20) == 0 {
				demand[i] = d.of(ends())
			}
		}
		turn := d.among(-20, 20)
		if d.below(4) == 0 {
			turn = d.of(ends())
		}
		held(t, d.among(0, api.MaxProcs), demand, prio, turn)
	}
}

// P12.1: what may be asked and what may not, mixed.
func TestWrongOnesAmongOthers(t *testing.T) {
	d := &dice{state: 121}
	for range 40000 {
		demand, prio := make([]int, d.among(0, api.MaxSpaces+1)), []int{}
		for i := range demand {
			demand[i] = d.among(-2, 9)
			prio = append(prio, d.among(0, api.MaxPrio))
		}
		procs := d.among(0, 20)
		switch d.below(6) {
		case 0:
			procs = d.of(ends())
		case 1:
			prio = append(prio, 0)
		case 2:
			prio = prio[:d.among(0, len(prio))]
		case 3:
			if len(prio) > 0 {
				prio[d.below(len(prio))] = d.of(ends())
			}
		}
		held(t, procs, demand, prio, d.of(ends()))
	}
}
