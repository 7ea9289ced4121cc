package cross

import "facet/api"

func absolute(n int) int {
	return max(n, -n)
}

// inner returns the sum of the products of the elements of two lists.
func inner(a, b []int) int {
	sum := 0
	for i, n := range a {
		sum += n * b[i]
	}
	return sum
}

// commonDivisor returns the greatest one of two numbers that are not both 0.
func commonDivisor(n, d int) int {
	for d != 0 {
		n, d = d, n%d
	}
	return absolute(n)
}

// quotient returns n / d, where d is not 0.
func quotient(n, d int) api.Rat {
	by := commonDivisor(n, d)
	if d < 0 {
		by = -by
	}
	return api.Rat{Num: n / by, Den: d / by}
}

// minus returns n - r. With r, that is in lowest terms, too.
func minus(n int, r api.Rat) api.Rat {
	return api.Rat{Num: n*r.Den - r.Num, Den: r.Den}
}

// above reports whether a is above b.
func above(a, b api.Rat) bool {
	return a.Num*b.Den > b.Num*a.Den
}
