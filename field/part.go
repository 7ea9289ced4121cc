package field

import (
	"iter"

	"facet/api"
)

// parts goes through the parts of a panel at a depth, in order.
func parts(p api.Panel, depth int) iter.Seq[api.Panel] {
	return func(yield func(api.Panel) bool) {
		visit(p, depth, yield)
	}
}

// visit hands out the parts until yield wants no more, and reports whether it
// wanted all of them.
func visit(p api.Panel, depth int, yield func(api.Panel) bool) bool {
	if depth == 0 {
		return yield(p)
	}
	for _, quarter := range quarters(p) {
		if !visit(quarter, depth-1, yield) {
			return false
		}
	}
	return true
}

// quarters returns the four parts of a triangle in a grid that is twice as fine.
func quarters(t api.Panel) [4]api.Panel {
	a, b, c := times(2, t.A), times(2, t.B), times(2, t.C)
	// The middle of two doubled corners is the sum of the old ones.
	p, q, r := plus(t.A, t.B), plus(t.B, t.C), plus(t.C, t.A)
	return [4]api.Panel{
		{A: a, B: p, C: r},
		{A: p, B: b, C: q},
		{A: r, B: q, C: c},
		{A: p, B: q, C: r},
	}
}
