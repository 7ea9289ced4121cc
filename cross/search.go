package cross

import (
	"math/bits"

	"facet/api"
)

func shorterSide(a [][]int) int {
	return min(len(a), len(a[0]))
}

// sets returns the sets of k numbers from 0 to n - 1.
func sets(n, k int) [][]int {
	var all [][]int
	for mask := range 1 << n {
		if bits.OnesCount(uint(mask)) != k {
			continue
		}
		var set []int
		for i := range n {
			if mask>>i&1 == 1 {
				set = append(set, i)
			}
		}
		all = append(all, set)
	}
	return all
}

// largest returns a choice of k rows with the greatest absolute value of a minor,
// and that value.
func largest(a [][]int, k int) (rows, columns []int, volume int) {
	volume = -1
	for _, r := range sets(len(a), k) {
		for _, c := range sets(len(a[0]), k) {
			if n := absolute(minor(a, r, c)); n > volume {
				rows, columns, volume = r, c, n
			}
		}
	}
	return rows, columns, volume
}

// accepted returns a choice of k rows that leaves nothing above a bound, if there is
// one. The first element above it settles that a choice is none.
func accepted(a [][]int, k int, bound api.Rat) ([]int, []int, bool) {
	for _, rows := range sets(len(a), k) {
	choosing:
		for _, columns := range sets(len(a[0]), k) {
			c, e := choose(a, rows, columns)
			if e != api.OK {
				continue
			}
			for i, row := range a {
				for j := range row {
					if above(c.size(i, j), bound) {
						continue choosing
					}
				}
			}
			return rows, columns, true
		}
	}
	return nil, nil, false
}
