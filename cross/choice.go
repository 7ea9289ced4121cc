package cross

import (
	"slices"

	"facet/api"
)

// choice has rows and columns of a matrix whose minor is not 0.
type choice struct {
	a             [][]int
	rows, columns []int
	minor         int
}

// choose returns a choice that has a skeleton, or the error of the arguments.
func choose(a [][]int, rows, columns []int) (choice, api.Errno) {
	if e := checkChoice(a, rows, columns); e != api.OK {
		return choice{}, e
	}
	c := choice{a, rows, columns, minor(a, rows, columns)}
	if c.minor == 0 {
		return choice{}, api.ErrZero
	}
	return c, api.OK
}

// bordered returns the determinant of the submatrix with the row i and the column j
// added at the end. Divided by the minor, it is an element of the residual.
func (c choice) bordered(i, j int) int {
	if slices.Contains(c.rows, i) || slices.Contains(c.columns, j) {
		return 0
	}
	return minor(c.a, with(c.rows, i), with(c.columns, j))
}

// with returns a list with a number added at the end. The list itself stays what it
// is, even where its memory has room for one more.
func with(l []int, n int) []int {
	return append(slices.Clone(l), n)
}

// size returns the absolute value of an element of the residual.
func (c choice) size(i, j int) api.Rat {
	return quotient(absolute(c.bordered(i, j)), absolute(c.minor))
}

// worst returns the greatest absolute value of an element of the residual.
func (c choice) worst() api.Rat {
	most := 0
	for i, row := range c.a {
		for j := range row {
			most = max(most, absolute(c.bordered(i, j)))
		}
	}
	return quotient(most, absolute(c.minor))
}

// leftOf returns the element i of the residual times x.
func (c choice) leftOf(i int, x []int) api.Rat {
	sum := 0
	for j, n := range x {
		sum += c.bordered(i, j) * n
	}
	return quotient(sum, c.minor)
}
