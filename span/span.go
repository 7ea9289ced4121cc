// Package span is layer 1: it calculates with enclosures in fixed point. All
// results are least spans. See doc/01-span.md.
package span

import (
	"strconv"
	"strings"

	"facet/api"
)

// maxScale is the greatest scale of Inverse and Cube.
const maxScale = 8

// Valid reports whether s is a valid span (P1.1).
func Valid(s api.Span) bool {
	return -api.MaxFix <= s.Lo && s.Lo <= s.Hi && s.Hi <= api.MaxFix
}

// Of returns the least span of n (P1.1).
func Of(n int) (api.Span, api.Errno) {
	return Quotient(n, 1)
}

// Quotient returns the least span of n divided by d (P1.1).
func Quotient(n, d int) (api.Span, api.Errno) {
	if !between(n, -api.MaxInt, api.MaxInt) || !between(d, -api.MaxInt, api.MaxInt) || d == 0 {
		return api.Span{}, api.ErrArg
	}
	return least(divideDown(n*api.One, d), divideUp(n*api.One, d))
}

// Add returns the least span of all sums (P1.2).
func Add(a, b api.Span) (api.Span, api.Errno) {
	return operate(adding, a, b)
}

// Sub returns the least span of all differences (P1.2).
func Sub(a, b api.Span) (api.Span, api.Errno) {
	return operate(subtracting, a, b)
}

// Mul returns the least span of all products (P1.2).
func Mul(a, b api.Span) (api.Span, api.Errno) {
	return operate(multiplying, a, b)
}

// Div returns the least span of all quotients (P1.2).
func Div(a, b api.Span) (api.Span, api.Errno) {
	return operate(dividing, a, b)
}

// Scale returns the least span of n times the numbers of a (P1.3).
func Scale(a api.Span, n int) (api.Span, api.Errno) {
	if !Valid(a) || !between(n, -api.MaxInt, api.MaxInt) {
		return api.Span{}, api.ErrArg
	}
	// Asked before multiplying: the products may not fit into an int.
	if _, far := sizes(a); far > 0 && max(n, -n) > api.MaxFix/far {
		return api.Span{}, api.ErrLarge
	}
	x, y := a.Lo*n, a.Hi*n
	return least(min(x, y), max(x, y))
}

// Part returns the least span of the numbers of a divided by n (P1.3).
func Part(a api.Span, n int) (api.Span, api.Errno) {
	if !Valid(a) || !between(n, 1, api.MaxInt) {
		return api.Span{}, api.ErrArg
	}
	return least(divideDown(a.Lo, n), divideUp(a.Hi, n))
}

// Square returns the least span of all squares (P1.2).
func Square(a api.Span) (api.Span, api.Errno) {
	if !Valid(a) {
		return api.Span{}, api.ErrArg
	}
	near, far := sizes(a)
	return least(multiplyDown(near, near), multiplyUp(far, far))
}

// Root returns the least span of all square roots (P1.2).
func Root(a api.Span) (api.Span, api.Errno) {
	if !Valid(a) || a.Lo < 0 {
		return api.Span{}, api.ErrArg
	}
	// The root of x/One is, in units of One, that of x*One: of x * 4^(places/2).
	lo, _ := root(a.Lo, places/2)
	_, hi := root(a.Hi, places/2)
	return least(lo, hi)
}

// Sum returns the least span of all sums of one number of each span (P1.4).
func Sum(l []api.Span) (api.Span, api.Errno) {
	lo, hi, e := total(l)
	if e != api.OK {
		return api.Span{}, e
	}
	return least(lo, hi)
}

// Mean returns the least span of the sum divided by the number of spans (P1.4).
func Mean(l []api.Span) (api.Span, api.Errno) {
	lo, hi, e := total(l)
	if e != api.OK {
		return api.Span{}, e
	}
	if len(l) == 0 {
		return api.Span{}, api.ErrArg
	}
	return least(divideDown(lo, len(l)), divideUp(hi, len(l)))
}

// Inverse returns the least span of scale divided by the root of n (P1.5).
func Inverse(n, scale int) (api.Span, api.Errno) {
	if !between(n, 1, api.MaxInt) || !between(scale, 1, maxScale) {
		return api.Span{}, api.ErrArg
	}
	top := scale * api.One
	return least(quotientRoot(top*top, n, 1))
}

// Cube returns the least span of the third power of scale divided by the root of n (P1.5).
func Cube(n, scale int) (api.Span, api.Errno) {
	if !between(n, 1, api.MaxInt) || !between(scale, 1, maxScale) {
		return api.Span{}, api.ErrArg
	}
	top := scale * scale * scale * api.One
	return least(quotientRoot(top*top, n, 3))
}

// Length returns the least span of the square root of n (P1.5).
func Length(n int) (api.Span, api.Errno) {
	if !between(n, 0, api.MaxInt) {
		return api.Span{}, api.ErrArg
	}
	return least(root(n, places))
}

// Hull returns the least span that encloses all numbers of a and of b (P1.6).
func Hull(a, b api.Span) (api.Span, api.Errno) {
	if !Valid(a) || !Valid(b) {
		return api.Span{}, api.ErrArg
	}
	return least(min(a.Lo, b.Lo), max(a.Hi, b.Hi))
}

// Meet returns the span of the numbers that both enclose, if there are any (P1.6).
func Meet(a, b api.Span) (api.Span, bool, api.Errno) {
	order, e := Compare(a, b)
	if e != api.OK || order != 0 {
		return api.Span{}, false, e
	}
	return api.Span{Lo: max(a.Lo, b.Lo), Hi: min(a.Hi, b.Hi)}, true, api.OK
}

// Within reports whether b encloses all numbers of a (P1.6).
func Within(a, b api.Span) (bool, api.Errno) {
	if !Valid(a) || !Valid(b) {
		return false, api.ErrArg
	}
	return b.Lo <= a.Lo && a.Hi <= b.Hi, api.OK
}

// Compare returns -1 if a lies below b, 1 if above, and 0 if they meet (P1.6).
func Compare(a, b api.Span) (int, api.Errno) {
	switch {
	case !Valid(a) || !Valid(b):
		return 0, api.ErrArg
	case a.Hi < b.Lo:
		return -1, api.OK
	case a.Lo > b.Hi:
		return 1, api.OK
	}
	return 0, api.OK
}

// Pi returns the least span of pi (P1.7).
func Pi() api.Span {
	return api.Span{Lo: 3294198, Hi: 3294199}
}

// Format writes Lo, a blank and Hi (P1.7).
func Format(s api.Span) (string, api.Errno) {
	if !Valid(s) {
		return "", api.ErrArg
	}
	return strconv.Itoa(s.Lo) + " " + strconv.Itoa(s.Hi), api.OK
}

// Parse returns the valid span whose Format is text (P1.7).
func Parse(text string) (api.Span, api.Errno) {
	lo, hi, _ := strings.Cut(text, " ")
	var s api.Span
	// Whatever Atoi makes of the words: the text has to be what Format writes.
	s.Lo, _ = strconv.Atoi(lo)
	s.Hi, _ = strconv.Atoi(hi)
	if written, e := Format(s); e != api.OK || written != text {
		return api.Span{}, api.ErrSyntax
	}
	return s, api.OK
}

// least returns the span of two bounds, which are exact or rounded outward.
func least(lo, hi int) (api.Span, api.Errno) {
	s := api.Span{Lo: lo, Hi: hi}
	if !Valid(s) {
		return api.Span{}, api.ErrLarge
	}
	return s, api.OK
}

func between(n, from, to int) bool {
	return from <= n && n <= to
}

// sizes returns the smallest and the greatest absolute value that a encloses.
func sizes(a api.Span) (near, far int) {
	return max(0, a.Lo, -a.Hi), max(-a.Lo, a.Hi)
}

// total returns the exact sums of the Los and of the His.
func total(l []api.Span) (lo, hi int, e api.Errno) {
	if len(l) > api.MaxSpans {
		return 0, 0, api.ErrLarge
	}
	for _, s := range l {
		if !Valid(s) {
			return 0, 0, api.ErrArg
		}
		lo += s.Lo
		hi += s.Hi
	}
	return lo, hi, api.OK
}
