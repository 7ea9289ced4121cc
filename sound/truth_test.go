package sound_test

import (
	"math"
	"testing"

	"facet/api"
)

// The truth, in floating point: what the spans have to enclose.

type vec [3]float64

func toVec(p api.Point) vec { return vec{float64(p.X), float64(p.Y), float64(p.Z)} }

func (a vec) minus(b vec) vec { return vec{a[0] - b[0], a[1] - b[1], a[2] - b[2]} }

func (a vec) dot(b vec) float64 { return a[0]*b[0] + a[1]*b[1] + a[2]*b[2] }

func (a vec) cross(b vec) vec {
	return vec{a[1]*b[2] - a[2]*b[1], a[2]*b[0] - a[0]*b[2], a[0]*b[1] - a[1]*b[0]}
}

func (a vec) size() float64 { return math.Sqrt(a.dot(a)) }

func (a vec) times(k float64) vec { return vec{k * a[0], k * a[1], k * a[2]} }

func (a vec) plus(b vec) vec { return a.minus(b.times(-1)) }

type triangle [3]vec

func toTriangle(p api.Panel) triangle { return triangle{toVec(p.A), toVec(p.B), toVec(p.C)} }

func (t triangle) normal() vec { return t[1].minus(t[0]).cross(t[2].minus(t[0])) }

// sector is the integral of 1/r, for r up to reach, over the triangle between the
// foot of x on a plane and a piece of a line in it: x is at the height h above the
// plane, the line at the distance d from the foot, and the piece goes from there
// to the place t along the line.
func sector(h, d, t, reach float64) float64 {
	if reach <= h {
		return 0
	}
	angle := math.Atan(t / d)
	end := 0.0 // of what is not too far on the line
	if wide := reach*reach - h*h - d*d; wide > 0 {
		end = min(math.Sqrt(wide), math.Abs(t))
	}
	end = math.Copysign(end, t)
	r := math.Sqrt(h*h + d*d + end*end)
	inside := math.Atan(end / d)
	return d*math.Asinh(end/math.Sqrt(h*h+d*d)) + h*math.Atan(h*end/(d*r)) - h*inside + (reach-h)*(angle-inside)
}

// upTo is the mean over the triangle of 1/r, where points farther away from x than
// reach count nothing: a sum of two sectors for each side.
func (t triangle) upTo(x vec, reach float64) float64 {
	n := t.normal()
	area := n.size() / 2
	n = n.times(1 / n.size())
	h := math.Abs(t[0].minus(x).dot(n))
	sum := 0.0
	for k := range 3 {
		a, b := t[k].minus(x), t[(k+1)%3].minus(x)
		along := b.minus(a)
		along = along.times(1 / along.size())
		beside := a.dot(along.cross(n))
		if d := math.Abs(beside); d > 1e-9 {
			sum += math.Copysign(sector(h, d, b.dot(along), reach)-sector(h, d, a.dot(along), reach), beside)
		}
	}
	return sum / area
}

// heardTruth is what is heard of a pulse in a tick.
func heardTruth(p api.Pulse, x api.Point, speed, tick int) float64 {
	q := float64(tick - p.At)
	if q < 1 {
		return 0
	}
	t, v := toTriangle(p.Panel), float64(speed)
	return float64(p.Power) * (t.upTo(toVec(x), v*q) - t.upTo(toVec(x), v*(q-1)))
}

// totalTruth is what is heard of a pulse in all ticks.
func totalTruth(p api.Pulse, x api.Point) float64 {
	return float64(p.Power) * toTriangle(p.Panel).upTo(toVec(x), 1e4)
}

// encloses reports whether a span encloses a number that is off by little.
func encloses(s api.Span, truth float64) bool {
	off := 1e-7 * (1 + math.Abs(truth))
	return float64(s.Lo)/one <= truth+off && float64(s.Hi)/one >= truth-off
}

// inside returns some points of the triangle, evenly spread: the middles of k*k parts.
func (t triangle) inside(k int) []vec {
	u, v := t[1].minus(t[0]).times(1/float64(k)), t[2].minus(t[0]).times(1/float64(k))
	var l []vec
	for i := range k {
		for j := range k - i {
			l = append(l, t[0].plus(u.times(float64(i)+1./3)).plus(v.times(float64(j)+1./3)))
			if i+j < k-1 {
				l = append(l, t[0].plus(u.times(float64(i)+2./3)).plus(v.times(float64(j)+2./3)))
			}
		}
	}
	return l
}

func TestTruth(t *testing.T) { // the formulas above, against sums over many points
	r := random()
	loud := 0
	for range 60 {
		p, x, speed := pulse(somePanel(r, 6), 0, 1), pt(r.IntN(5), r.IntN(5), 1+r.IntN(9)), 1+r.IntN(5)
		points := toTriangle(p.Panel).inside(150)
		for tick := range 12 {
			sum := 0.0
			for _, y := range points {
				if d := y.minus(toVec(x)).size(); d > float64(speed*(tick-1)) && d <= float64(speed*tick) {
					sum += 1 / d
				}
			}
			sum /= float64(len(points))
			truth := heardTruth(p, x, speed, tick)
			if math.Abs(truth-sum) > 0.01 {
				t.Error("heard:", p, x, speed, tick, truth, sum)
			}
			if sum > 0.05 {
				loud++
			}
		}
	}
	if loud < 60 {
		t.Error("heard: too little is heard", loud)
	}
}
