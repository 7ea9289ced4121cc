package hold_test

import (
	"fmt"
	"math"
	"testing"

	"facet/api"
	"facet/hold"
)

// The truth, in floating point: what the spans have to enclose.

type vec [3]float64

func toVec(p api.Point) vec { return vec{float64(p.X), float64(p.Y), float64(p.Z)} }

func (a vec) minus(b vec) vec { return vec{a[0] - b[0], a[1] - b[1], a[2] - b[2]} }

func (a vec) dot(b vec) float64 { return a[0]*b[0] + a[1]*b[1] + a[2]*b[2] }

func (a vec) cross(b vec) vec {
	return vec{a[1]*b[2] - a[2]*b[1], a[2]*b[0] - a[0]*b[2], a[0]*b[1] - a[1]*b[0]}
}

func (a vec) size() float64 { return math.Sqrt(a.dot(a)) }

func (a vec) times(k float64) vec { return vec{k * a[0], k * a[1], k * a[2]} }

func (a vec) plus(b vec) vec { return a.minus(b.times(-1)) }

type triangle [3]vec

func triangleOf(m api.Mesh, i int) triangle {
	p := panel(m, i)
	return triangle{toVec(p.A), toVec(p.B), toVec(p.C)}
}

// solidAngle is the formula of van Oosterom and Strackee.
func (t triangle) solidAngle(x vec) float64 {
	a, b, c := t[0].minus(x), t[1].minus(x), t[2].minus(x)
	top := a.dot(b.cross(c))
	if top == 0 {
		return 0
	}
	return 2 * math.Atan2(top, a.size()*b.size()*c.size()+a.dot(b)*c.size()+b.dot(c)*a.size()+c.dot(a)*b.size())
}

// mean is the mean of 1/r over the triangle, seen from x, also where x lies in it: a
// sum of a logarithm for each side, less the height times the solid angle.
func (t triangle) mean(x vec) float64 {
	n := t[1].minus(t[0]).cross(t[2].minus(t[0]))
	area := n.size() / 2
	n = n.times(1 / n.size())
	sum := 0.0
	for k := range 3 {
		a, b := t[k], t[(k+1)%3]
		along := b.minus(a)
		along = along.times(1 / along.size())
		beside := a.minus(x).dot(along.cross(n))
		if math.Abs(beside) < 1e-9 {
			continue
		}
		from, to := a.minus(x).dot(along), b.minus(x).dot(along)
		r := math.Sqrt(max(0, a.minus(x).dot(a.minus(x))-from*from)) // of the line
		sum += beside * (math.Asinh(to/r) - math.Asinh(from/r))
	}
	height := t[0].minus(x).dot(n)
	return (sum - math.Abs(height)*math.Abs(t.solidAngle(x))) / area
}

// at is the point of the triangle with the weights 1-u-v, u and v of its corners.
func (t triangle) at(u, v float64) vec {
	return t[0].plus(t[1].minus(t[0]).times(u)).plus(t[2].minus(t[0]).times(v))
}

// inside returns some points of the triangle, evenly spread: the middles of k*k parts.
func (t triangle) inside(k int) []vec {
	var l []vec
	n := float64(k)
	for i := range k {
		for j := range k - i {
			u, v := float64(i), float64(j)
			l = append(l, t.at((u+1./3)/n, (v+1./3)/n))
			if i+j < k-1 {
				l = append(l, t.at((u+2./3)/n, (v+2./3)/n))
			}
		}
	}
	return l
}

// enclosesTruth expects that a span encloses a number, which is off by little.
func enclosesTruth(t *testing.T, what string, s api.Span, truth, little float64) {
	t.Helper()
	off := little * (1 + math.Abs(truth))
	if float64(s.Lo)/one > truth+off || float64(s.Hi)/one < truth-off || math.IsNaN(truth) {
		t.Errorf("%s: %v does not enclose %v", what, s, truth*one)
	}
}

// potential is that of the charged faces at a point.
func potential(m api.Mesh, charges []int, x vec) float64 {
	sum := 0.0
	for i, c := range charges {
		sum += float64(c) * triangleOf(m, i).mean(x)
	}
	return sum
}

// truths are meshes with charges whose potentials are looked at.
func truths(hand func(what string, m api.Mesh, charges []int, depth int)) {
	r := random()
	for k, m := range []api.Mesh{octa(1), box(1, 2, 3), box(1, 20, 20), someTetra(r, 5), joined(octa(1), moved(octa(2), 9, 0, 0))} {
		for _, charges := range chargesOf(r, m, 2) {
			for depth := range api.MaxPair + 1 {
				hand(fmt.Sprint("mesh ", k, " charges ", charges, " depth ", depth), m, charges, depth)
			}
		}
	}
}

func TestTruePotentials(t *testing.T) { // P7.2: at every point of a face, its corners and sides, too
	truths(func(what string, m api.Mesh, charges []int, depth int) {
		for j, s := range must(hold.Potentials(m, charges, depth)) {
			face := triangleOf(m, j)
			l := append(face.inside(2), face[0], face[1], face[2], face.at(0.5, 0), face.at(0.1, 0.9))
			for _, x := range l {
				enclosesTruth(t, fmt.Sprint("P7.2 Potentials ", what, " face ", j, " at ", x), s, potential(m, charges, x), 1e-9)
			}
		}
	})
}

func TestTrueEnergy(t *testing.T) { // P7.2
	truths(func(what string, m api.Mesh, charges []int, depth int) {
		s, e := hold.Energy(m, charges, depth)
		if e == api.ErrLarge {
			return
		}
		expect(t, what, e, api.OK)
		sum := 0.0
		for j, c := range charges {
			l := triangleOf(m, j).inside(5)
			for _, x := range l {
				sum += float64(c) * potential(m, charges, x) / float64(len(l))
			}
		}
		enclosesTruth(t, "P7.2 Energy "+what, s, sum, 0.01)
	})
}

func TestTrueCapacity(t *testing.T) { // P7.3, P7.4
	r := random()
	const cube = 0.66067815 // of the side 1, as it is known from random walks
	for _, k := range []int{1, 5, 64} {
		what := fmt.Sprint("P7.4 cube ", k)
		enclosesTruth(t, what, capacity(t, what, box(k, k, k), r), cube*float64(k), 1e-7)
	}
	// An octahedron has more capacity than a ball of its volume, and less than one of
	// its mean width.
	least := math.Cbrt(1 / math.Pi)
	most := 12 * math.Sqrt2 * (math.Pi - math.Acos(-1./3)) / 2 / (4 * math.Pi)
	s := capacity(t, "P7.4 octahedron", octa(4), r)
	meets(t, "P7.4 octahedron", s, sp(int(4*least*one), int(4*most*one)+1))
}
