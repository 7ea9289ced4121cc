package hold

import (
	"slices"

	"facet/api"
	"facet/field"
	"facet/shape"
	"facet/span"
)

// body is a mesh whose faces have seen each other at one depth: what all its bounds
// are made of, for any charges.
type body struct {
	between, mutual table
	ball            int
}

func bodyOf(m api.Mesh, depth int) (body, api.Errno) {
	between, e := tabulate(m, depth, field.Between)
	if e != api.OK {
		return body{}, e
	}
	mutual, e := tabulate(m, depth, field.Mutual)
	if e != api.OK {
		return body{}, e
	}
	lo, hi, e := shape.Box(m)
	if e != api.OK {
		return body{}, e
	}
	ball, e := Ball(m, middle(lo, hi))
	if e != api.OK {
		return body{}, e
	}
	return body{between, mutual, ball}, api.OK
}

// bounds returns a span of the capacity, by charges of the body.
func (b body) bounds(charges []int) (api.Span, api.Errno) {
	total := sum(charges)
	potentials, e := b.between.potentials(charges)
	if e != api.OK {
		return api.Span{}, e
	}
	lower, e := below(total, potentials)
	if e != api.OK {
		return api.Span{}, e
	}
	energy, e := b.mutual.energy(charges)
	if e != api.OK {
		return api.Span{}, e
	}
	byEnergy, e := thomson(total, energy)
	if e != api.OK {
		return api.Span{}, e
	}
	upper, e := above(total, potentials)
	if e != api.OK {
		return api.Span{}, e
	}
	return api.Span{Lo: max(lower, byEnergy), Hi: min(upper, b.ball)}, api.OK
}

// below divides the sum of the charges by the greatest potential, rounded down.
func below(total int, potentials []api.Span) (int, api.Errno) {
	most := 0
	for _, s := range potentials {
		most = max(most, s.Hi)
	}
	// The fixed point number most stands for most/One.
	s, e := span.Quotient(total*api.One, most)
	return s.Lo, e
}

// above divides the sum of the charges by the smallest potential, rounded up.
func above(total int, potentials []api.Span) (int, api.Errno) {
	least := api.MaxFix
	for _, s := range potentials {
		least = min(least, s.Lo)
	}
	s, e := span.Quotient(total*api.One, least)
	return s.Hi, e
}

// thomson divides the square of the sum of the charges by the energy: the energy by
// the sum, rounded up, and then the sum by that, rounded down.
func thomson(total int, energy api.Span) (int, api.Errno) {
	each, e := span.Part(energy, total)
	if e != api.OK {
		return 0, e
	}
	s, e := span.Quotient(total*api.One, each.Hi)
	return s.Lo, e
}

func sum(l []int) int {
	total := 0
	for _, n := range l {
		total += n
	}
	return total
}

// even returns the same charge for each of n faces.
func even(n, charge int) []int {
	return slices.Repeat([]int{charge}, n)
}

// middle returns the middle of two points, rounded down, as a shift does also below 0.
func middle(a, b api.Point) api.Point {
	return api.Point{X: (a.X + b.X) >> 1, Y: (a.Y + b.Y) >> 1, Z: (a.Z + b.Z) >> 1}
}

func squaredDistance(a, b api.Point) int {
	x, y, z := a.X-b.X, a.Y-b.Y, a.Z-b.Z
	return x*x + y*y + z*z
}
