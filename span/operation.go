package span

import "facet/api"

// The operations with two spans.
const (
	adding = iota
	subtracting
	multiplying
	dividing
)

// operation has what the bounds of an operation's results are made of.
type operation struct {
	down, up func(x, y int) int // the result for two numbers, rounded
	divides  bool
}

func operations() [4]operation {
	sum := func(x, y int) int { return x + y }
	difference := func(x, y int) int { return x - y }
	return [4]operation{
		adding:      {down: sum, up: sum},
		subtracting: {down: difference, up: difference},
		multiplying: {down: multiplyDown, up: multiplyUp},
		dividing: {
			down:    func(x, y int) int { return divideDown(x*api.One, y) },
			up:      func(x, y int) int { return divideUp(x*api.One, y) },
			divides: true,
		},
	}
}

// operate returns the least span of the results of an operation. While one of
// the two numbers stands still, each operation rises or falls throughout with
// the other one, so that the extreme results are found at the bounds.
func operate(kind int, a, b api.Span) (api.Span, api.Errno) {
	if !Valid(a) || !Valid(b) {
		return api.Span{}, api.ErrArg
	}
	o := operations()[kind]
	if o.divides && b.Lo <= 0 && b.Hi >= 0 {
		return api.Span{}, api.ErrZero
	}
	lo := min(o.down(a.Lo, b.Lo), o.down(a.Lo, b.Hi), o.down(a.Hi, b.Lo), o.down(a.Hi, b.Hi))
	hi := max(o.up(a.Lo, b.Lo), o.up(a.Lo, b.Hi), o.up(a.Hi, b.Lo), o.up(a.Hi, b.Hi))
	return least(lo, hi)
}
