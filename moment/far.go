package moment

import (
	"facet/api"
	"facet/span"
)

// seen are moments and the point, away from their center, from which they are seen.
type seen struct {
	api.Moments
	u       vector
	n       int      // the square of the length of u
	inverse api.Span // of that length
}

// seenFrom returns moments as they are seen from the center plus u.
func seenFrom(m api.Moments, u api.Point, order int) (seen, api.Errno) {
	if e := Validate(m); e != api.OK {
		return seen{}, e
	}
	if !mayStand(u, order) {
		return seen{}, api.ErrArg
	}
	if u == (api.Point{}) {
		return seen{}, api.ErrZero
	}
	v := vectorOf(u)
	n := v.scalar(v)
	inverse, e := span.Inverse(n, 1)
	if e != api.OK {
		return seen{}, e
	}
	return seen{Moments: m, u: v, n: n, inverse: inverse}, api.OK
}

// term is one of the terms of a far field.
type term func() (api.Span, api.Errno)

// terms returns the terms by their orders.
func (s seen) terms() [api.MaxOrder + 1]term {
	return [api.MaxOrder + 1]term{s.ofCharge, s.ofDipole, s.ofSecond}
}

// value adds up the terms of the orders from 0 to order.
func (s seen) value(order int) (api.Span, api.Errno) {
	var l []term
	switch order {
	case 2:
		l = append(l, s.ofSecond)
		fallthrough
	case 1:
		l = append(l, s.ofDipole)
		fallthrough
	default:
		l = append(l, s.ofCharge)
	}
	var spans []api.Span
	for _, of := range l {
		t, e := of()
		if e != api.OK {
			return api.Span{}, e
		}
		spans = append(spans, t)
	}
	return span.Sum(spans)
}

func (s seen) ofCharge() (api.Span, api.Errno) {
	return span.Scale(s.inverse, s.Charge)
}

func (s seen) ofDipole() (api.Span, api.Errno) {
	return s.timesInverse(vectorOf(s.Dipole).scalar(s.u), 3*s.n)
}

func (s seen) ofSecond() (api.Span, api.Errno) {
	w := 0
	for k, p := range places {
		i, j := p[0], p[1]
		product := s.u[i] * s.Second[k] * s.u[j]
		w += product
		if i != j {
			w += product // ji is as ij
		}
	}
	return s.timesInverse(3*w-s.n*trace(s.Second), 24*s.n*s.n)
}

// timesInverse returns the span of top / bottom / the length of u.
func (s seen) timesInverse(top, bottom int) (api.Span, api.Errno) {
	q, e := quotient(top, bottom)
	if e != api.OK {
		return api.Span{}, e
	}
	return span.Mul(q, s.inverse)
}

// quotient returns the least span of top / bottom, for bottom from 1 to 2^43. Both
// may be too large for span.Quotient, and top*One for an int, also where the
// quotient is small; it is never above 2^33, so that taken apart all numbers fit.
func quotient(top, bottom int) (api.Span, api.Errno) {
	whole, rest := top/bottom*api.One, top%bottom*api.One
	q := api.Span{Lo: whole + divideDown(rest, bottom), Hi: whole + divideUp(rest, bottom)}
	if !span.Valid(q) {
		return api.Span{}, api.ErrLarge
	}
	return q, api.OK
}

// beyond returns Rest for the radius and the distance in fixed point, rounded up
// and down.
func beyond(total, radius, distance, order int) (int, api.Errno) {
	if distance <= radius {
		return 0, api.ErrNear
	}
	share := divideUp(radius*api.One, distance)
	power := share
	for range order {
		power = divideUp(power*share, api.One)
	}
	rest := divideUp(total*power*api.One, distance-radius)
	if rest > api.MaxFix {
		return 0, api.ErrLarge
	}
	return rest, api.OK
}

// divideDown returns n/d, rounded down, for d above 0.
func divideDown(n, d int) int {
	q := n / d
	if n%d < 0 {
		q--
	}
	return q
}

// divideUp returns n/d, rounded up, for d above 0.
func divideUp(n, d int) int {
	return -divideDown(-n, d)
}
