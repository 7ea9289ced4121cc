package field_test

import (
	"math"
	"testing"

	"facet/api"
)

// The truth, in floating point: what the spans have to enclose.

type vec [3]float64

func toVec(p api.Point) vec { return vec{float64(p.X), float64(p.Y), float64(p.Z)} }

func (a vec) minus(b vec) vec { return vec{a[0] - b[0], a[1] - b[1], a[2] - b[2]} }

func (a vec) dot(b vec) float64 { return a[0]*b[0] + a[1]*b[1] + a[2]*b[2] }

func (a vec) cross(b vec) vec {
	return vec{a[1]*b[2] - a[2]*b[1], a[2]*b[0] - a[0]*b[2], a[0]*b[1] - a[1]*b[0]}
}

func (a vec) size() float64 { return math.Sqrt(a.dot(a)) }

func (a vec) times(k float64) vec { return vec{k * a[0], k * a[1], k * a[2]} }

func (a vec) plus(b vec) vec { return a.minus(b.times(-1)) }

type triangle [3]vec

func toTriangle(p api.Panel) triangle { return triangle{toVec(p.A), toVec(p.B), toVec(p.C)} }

func (t triangle) normal() vec { return t[1].minus(t[0]).cross(t[2].minus(t[0])) }

// solidAngle is the formula of van Oosterom and Strackee.
func (t triangle) solidAngle(x vec) float64 {
	a, b, c := t[0].minus(x), t[1].minus(x), t[2].minus(x)
	top := a.dot(b.cross(c))
	if top == 0 {
		return 0
	}
	return 2 * math.Atan2(top, a.size()*b.size()*c.size()+a.dot(b)*c.size()+b.dot(c)*a.size()+c.dot(a)*b.size())
}

// mean is the mean of 1/r over the triangle, seen from x: a sum of a logarithm
// for each side, less the height times the solid angle.
func (t triangle) mean(x vec) float64 {
	n := t.normal()
	area := n.size() / 2
	n = n.times(1 / n.size())
	sum := 0.0
	for k := range 3 {
		a, b := t[k], t[(k+1)%3]
		along := b.minus(a)
		along = along.times(1 / along.size())
		out := along.cross(n)
		beside := a.minus(x).dot(out)
		if math.Abs(beside) < 1e-9 {
			continue
		}
		from, to := a.minus(x).dot(along), b.minus(x).dot(along)
		r := math.Sqrt(max(0, a.minus(x).dot(a.minus(x))-from*from)) // of the line
		sum += beside * (math.Asinh(to/r) - math.Asinh(from/r))
	}
	height := t[0].minus(x).dot(n)
	return (sum - math.Abs(height)*math.Abs(t.solidAngle(x))) / area
}

// meanCube is the mean of 1/r^3, for a point that is not in the plane.
func (t triangle) meanCube(x vec) float64 {
	n := t.normal()
	return 2 * t.solidAngle(x) / t[0].minus(x).dot(n)
}

// inside returns some points of the triangle, evenly spread: the middles of k*k parts.
func (t triangle) inside(k int) []vec {
	u, v := t[1].minus(t[0]).times(1/float64(k)), t[2].minus(t[0]).times(1/float64(k))
	var l []vec
	for i := range k {
		for j := range k - i {
			l = append(l, t[0].plus(u.times(float64(i)+1./3)).plus(v.times(float64(j)+1./3)))
			if i+j < k-1 {
				l = append(l, t[0].plus(u.times(float64(i)+2./3)).plus(v.times(float64(j)+2./3)))
			}
		}
	}
	return l
}

// mutual is the mean of 1/r over two triangles, nearly.
func (t triangle) mutual(q triangle) float64 {
	sum := 0.0
	l := q.inside(8)
	for _, x := range l {
		sum += t.mean(x)
	}
	return sum / float64(len(l))
}

// enclosesTruth expects that a span encloses a number, which is off by little.
func enclosesTruth(t *testing.T, what string, s api.Span, truth, little float64) {
	t.Helper()
	off := little * (1 + math.Abs(truth))
	if float64(s.Lo)/one > truth+off || float64(s.Hi)/one < truth-off || math.IsNaN(truth) {
		t.Errorf("%s: %v does not enclose %v", what, s, truth*one)
	}
}

func TestTruth(t *testing.T) { // the formulas above, against sums over many points
	r := random()
	for range 50 {
		p, x := somePanel(r, 5), toVec(pt(3, 7, 4+r.IntN(5)))
		q := toTriangle(p)
		sum, cubes := 0.0, 0.0
		l := q.inside(60)
		for _, y := range l {
			sum += 1 / y.minus(x).size()
			cubes += math.Pow(y.minus(x).size(), -3)
		}
		if off := q.mean(x)*float64(len(l))/sum - 1; math.Abs(off) > 0.01 {
			t.Error("mean:", p, x, off)
		}
		if off := q.meanCube(x)*float64(len(l))/cubes - 1; q.normal().dot(q[0].minus(x)) != 0 && math.Abs(off) > 0.03 {
			t.Error("meanCube:", p, x, off)
		}
	}
}
