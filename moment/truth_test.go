package moment_test

import (
	"fmt"
	"math"
	"math/rand/v2"
	"testing"

	"facet/api"
	"facet/field"
	"facet/moment"
	"facet/span"
)

// place is a place in a triangle, by the weights of the corners, and what it counts.
type place struct {
	corners [3]float64
	counts  float64
}

// places are Radon's: a mean over the seven is exact up to the fifth power.
func places() []place {
	root := math.Sqrt(15)
	l := []place{{[3]float64{1. / 3, 1. / 3, 1. / 3}, 9. / 40}}
	for _, sign := range []float64{-1, 1} {
		a, counts := (6+sign*root)/21, (155+sign*root)/1200
		for k := range 3 {
			p := place{[3]float64{a, a, a}, counts}
			p.corners[k] = 1 - 2*a
			l = append(l, p)
		}
	}
	return l
}

// truth is the potential at x in floating point, for x that is not near the panels.
func truth(l []api.Charged, x api.Point) float64 {
	const depth, scale, parts = 2, 4, 16
	sum := 0.0
	for _, c := range l {
		for _, part := range must(field.Parts(c.Panel, depth)) {
			for _, p := range places() {
				square := 0.0
				for i := range 3 {
					d := -scale * float64(axes(x)[i])
					for v, corner := range listed(part) {
						d += p.corners[v] * float64(axes(corner)[i])
					}
					square += d * d
				}
				sum += float64(c.Charge) * p.counts / parts * scale / math.Sqrt(square)
			}
		}
	}
	return sum
}

// clustered returns panels around a place, and a center that is not far from it.
func clustered(r *rand.Rand) (l []api.Charged, center api.Point) {
	size := 1 + r.IntN(16)
	middle := somewhere(r, 64-2*size)
	l = some(r, 1+r.IntN(6), size)
	for i, c := range l {
		l[i].Panel = tri(plus(c.Panel.A, middle), plus(c.Panel.B, middle), plus(c.Panel.C, middle))
	}
	return l, plus(middle, somewhere(r, size))
}

// TestEncloses holds Far against the potential of the panels themselves: from near
// by against field.Potential, from farther away against an integral.
func TestEncloses(t *testing.T) { // P4.6, the consequence; S1
	r := random()
	near, far := 0, 0
	for range 400 {
		l, center := clustered(r)
		m, radius2 := must(moment.Of(l, center)), must(moment.Radius2(l, center))
		for range 12 {
			x := plus(center, somewhere(r, 12+r.IntN(180)))
			u := minus(x, center)
			for order := range 3 {
				s, e := moment.Far(m, radius2, u, order)
				if e != api.OK {
					expect(t, "P4.6 error", e == api.ErrNear && square(u) <= radius2 || u == pt(0, 0, 0), true)
					continue
				}
				what := fmt.Sprint("S1 Far of ", l, " about ", center, " at ", x, order)
				if p, e := field.Potential(l, x, 3); e == api.OK {
					near++
					expect(t, what, res(span.Compare(s, p)), res(0, api.OK))
				}
				if square(u) > 9*radius2 {
					far++
					enclosesTruth(t, what, s, truth(l, x))
				}
			}
		}
	}
	if near < 3000 || far < 3000 {
		t.Error("S1: too few points:", near, far)
	}
}

func enclosesTruth(t *testing.T, what string, s api.Span, truth float64) {
	t.Helper()
	off := 1e-8 * (1 + math.Abs(truth))
	if float64(s.Lo)/one > truth+off || float64(s.Hi)/one < truth-off || math.IsNaN(truth) {
		t.Errorf("%s: %v does not enclose %v", what, s, truth*one)
	}
}

// TestNearer expects that each order comes nearer to the potential of a panel that
// is not about its center.
func TestNearer(t *testing.T) { // P4.5
	l := []api.Charged{charged(tri(pt(1, 2, 3), pt(9, 3, 2), pt(2, 8, 5)), 100)}
	m := must(moment.Of(l, pt(0, 0, 0)))
	for _, u := range []api.Point{pt(100, 0, 0), pt(0, -120, 30), pt(40, 90, -70), pt(60, 80, 50)} {
		off := math.Inf(1)
		for order := range 3 {
			s := must(moment.Value(m, u, order))
			now := math.Abs(float64(s.Lo+s.Hi)/2/one - truth(l, u))
			if now > off/3 {
				t.Error("P4.5 Value:", u, order, now, off)
			}
			off = now
		}
	}
}
