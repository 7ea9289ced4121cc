package cross

import "facet/api"

// The greatest parts of a bound, and the greatest absolute value of a factor.
const (
	maxBoundDen = 1000
	maxBoundNum = 1000000
	maxFactor   = 1000
)

func inRange(n, from, to int) bool {
	return from <= n && n <= to
}

// allWithin reports whether numbers are from -limit to limit.
func allWithin(l []int, limit int) bool {
	for _, n := range l {
		if !inRange(n, -limit, limit) {
			return false
		}
	}
	return true
}

// isSet reports whether a list is a set of numbers from 0 to n - 1.
func isSet(l []int, n int) bool {
	for place, number := range l {
		if !inRange(number, 0, n-1) || place > 0 && number <= l[place-1] {
			return false
		}
	}
	return true
}

// checkChoice returns the error of a matrix, and then that of a choice.
func checkChoice(a [][]int, rows, columns []int) api.Errno {
	if e := Validate(a); e != api.OK {
		return e
	}
	if len(rows) != len(columns) || !isSet(rows, len(a)) || !isSet(columns, len(a[0])) {
		return api.ErrArg
	}
	return api.OK
}

// checkSize returns the error of a matrix, and then that of the size of a choice.
func checkSize(a [][]int, k int) api.Errno {
	if e := Validate(a); e != api.OK {
		return e
	}
	if !inRange(k, 0, shorterSide(a)) {
		return api.ErrArg
	}
	return api.OK
}

// isBound reports whether a fraction is a bound of P6.4.
func isBound(b api.Rat) bool {
	return inRange(b.Den, 1, maxBoundDen) && inRange(b.Num, 0, maxBoundNum) && commonDivisor(b.Num, b.Den) == 1
}

// isFactor reports whether a matrix may be multiplied by x.
func isFactor(a [][]int, x []int) bool {
	return len(x) == len(a[0]) && allWithin(x, maxFactor)
}
