package shape_test

import (
	"math"
	"testing"

	"facet/api"
	"facet/shape"
)

// referenceIn solves p = a + s (b - a) + t (c - a) by two of the three
// equations, and asks whether the third one holds and s, t and 1 - s - t are
// not below 0.
func referenceIn(p, a, b, c api.Point) bool {
	u := [3]int{b.X - a.X, b.Y - a.Y, b.Z - a.Z}
	v := [3]int{c.X - a.X, c.Y - a.Y, c.Z - a.Z}
	w := [3]int{p.X - a.X, p.Y - a.Y, p.Z - a.Z}
	for i := range 3 {
		j, k := (i+1)%3, (i+2)%3
		d := u[i]*v[j] - u[j]*v[i]
		if d == 0 {
			continue
		}
		s, t := w[i]*v[j]-w[j]*v[i], u[i]*w[j]-u[j]*w[i]
		if d < 0 {
			d, s, t = -d, -s, -t
		}
		return s*u[k]+t*v[k] == d*w[k] && s >= 0 && t >= 0 && s+t <= d
	}
	return false
}

func referenceOn(m api.Mesh, p api.Point) bool {
	for _, f := range m.Faces {
		if referenceIn(p, m.Points[f[0]], m.Points[f[1]], m.Points[f[2]]) {
			return true
		}
	}
	return false
}

// referenceWinding adds up the solid angles, by the formula of van Oosterom and
// Strackee, in floating point.
func referenceWinding(m api.Mesh, p api.Point) (n int, off float64) {
	sum := 0.0
	for _, f := range m.Faces {
		var v [3][3]float64
		var r [3]float64
		for k, c := range f {
			q := m.Points[c]
			v[k] = [3]float64{float64(q.X - p.X), float64(q.Y - p.Y), float64(q.Z - p.Z)}
			r[k] = math.Sqrt(v[k][0]*v[k][0] + v[k][1]*v[k][1] + v[k][2]*v[k][2])
		}
		dot := func(i, j int) float64 { return v[i][0]*v[j][0] + v[i][1]*v[j][1] + v[i][2]*v[j][2] }
		a, b, c := v[0], v[1], v[2]
		top := a[0]*(b[1]*c[2]-b[2]*c[1]) + a[1]*(b[2]*c[0]-b[0]*c[2]) + a[2]*(b[0]*c[1]-b[1]*c[0])
		if top != 0 { // else p is in the plane, beside the triangle
			sum += 2 * math.Atan2(top, r[0]*r[1]*r[2]+dot(0, 1)*r[2]+dot(1, 2)*r[0]+dot(2, 0)*r[1])
		}
	}
	w := sum / (4 * math.Pi)
	return int(math.Round(w)), math.Abs(w - math.Round(w))
}

// lookAt compares On and Winding with the references.
func lookAt(t *testing.T, a animal, p api.Point) (winding int, on bool) {
	t.Helper()
	on = referenceOn(a.m, p)
	if got, e := shape.On(a.m, p); got != on || e != api.OK {
		t.Error("P2.5 On:", a.name, p, got, e)
	}
	if on {
		refused[int](t, "P2.5 Winding on "+a.name, api.ErrOn)(shape.Winding(a.m, p))
		return 0, true
	}
	winding, off := referenceWinding(a.m, p)
	if off > 0.001 {
		t.Error("P2.5: the reference is no integer:", a.name, p, off)
	}
	expect(t, "P2.5 Winding of "+a.name, winding)(shape.Winding(a.m, p))
	return winding, false
}

func TestPoints(t *testing.T) { // P2.5
	r := random()
	numbers := map[int]int{}
	borders := 0
	for _, a := range zoo() {
		lo, hi, _ := shape.Box(a.m)
		var l []api.Point
		for range 300 { // in the box, and a bit beside it
			l = append(l, pt(lo.X-1+r.IntN(hi.X-lo.X+3), lo.Y-1+r.IntN(hi.Y-lo.Y+3), lo.Z-1+r.IntN(hi.Z-lo.Z+3)))
		}
		for range 50 {
			l = append(l, pt(r.IntN(513)-256, r.IntN(513)-256, r.IntN(513)-256))
		}
		l = append(l, a.m.Points...)
		for _, f := range a.m.Faces { // the middles of sides, and points that lie beside the ends of sides
			p, q := a.m.Points[f[0]], a.m.Points[f[1]]
			l = append(l, pt((p.X+q.X)/2, (p.Y+q.Y)/2, (p.Z+q.Z)/2), pt(2*p.X-q.X, 2*p.Y-q.Y, 2*p.Z-q.Z))
		}
		for _, x := range []int{-256, 0, 256} {
			l = append(l, pt(x, 256, -256), pt(256, x, 256), pt(-256, -256, x))
		}
		for _, p := range l {
			w, on := lookAt(t, a, p)
			numbers[w]++
			if on {
				borders++
			}
		}
	}
	for w := -1; w <= 2; w++ {
		if numbers[w] < 10 {
			t.Error("P2.5: too few points with the winding number", w, numbers)
		}
	}
	if borders < 100 {
		t.Error("P2.5: too few points on surfaces:", borders)
	}
}

func TestAllPointsNear(t *testing.T) { // P2.5: all points of a grid, so that rays meet edges and corners
	for _, a := range zoo() {
		lo, hi, _ := shape.Box(a.m)
		if hi.X-lo.X > 13 || hi.Y-lo.Y > 13 || hi.Z-lo.Z > 13 {
			continue
		}
		for x := lo.X - 1; x <= hi.X+1; x++ {
			for y := lo.Y - 1; y <= hi.Y+1; y++ {
				for z := lo.Z - 1; z <= hi.Z+1; z++ {
					lookAt(t, a, pt(x, y, z))
				}
			}
		}
	}
}

func TestWindingExamples(t *testing.T) { // P2.5
	for x := -1; x <= 2; x++ {
		for y := -1; y <= 3; y++ {
			for z := -1; z <= 4; z++ {
				w, e := shape.Winding(box(1, 2, 3), pt(x, y, z))
				if on := x >= 0 && x <= 1 && y >= 0 && y <= 2 && z >= 0 && z <= 3; w != 0 || (e == api.ErrOn) != on {
					t.Error("example 1:", x, y, z, w, e)
				}
			}
		}
	}
	expect(t, "example 1", 1)(shape.Winding(box(2, 2, 2), pt(1, 1, 1)))
	expect(t, "P2.5 box in a box", 2)(shape.Winding(join(box(6, 6, 6), at(box(2, 2, 2), pt(2, 2, 2))), pt(3, 3, 3)))
	expect(t, "P2.5 cavity", 0)(shape.Winding(join(box(6, 6, 6), reversed(at(box(2, 2, 2), pt(2, 2, 2)))), pt(3, 3, 3)))
	expect(t, "P2.5 inside out", -1)(shape.Winding(join(box(6, 6, 6), reversed(at(box(2, 2, 2), pt(8, 2, 2)))), pt(9, 3, 3)))
	expect(t, "P2.5 in the hole of a frame", 0)(shape.Winding(frame(), pt(3, 3, 1)))
	expect(t, "P2.5 in a frame", 1)(shape.Winding(frame(), pt(1, 3, 1)))
	expect(t, "P2.5 in the box, not in the face", false)(shape.On(octa(4), pt(2, 2, 2)))
	expect(t, "P2.5 in the face", true)(shape.On(octa(6), pt(2, 2, 2)))
	expect(t, "P2.5 on an edge", true)(shape.On(octa(6), pt(3, 3, 0)))
	expect(t, "P2.5 at a corner", true)(shape.On(octa(6), pt(0, 0, -6)))
	expect(t, "P2.5 beyond a corner", false)(shape.On(octa(6), pt(0, 0, -7)))
	expect(t, "P2.5 in the plane of a face, outside", false)(shape.On(box(2, 2, 2), pt(3, 1, 0)))
}

func TestPointsRefused(t *testing.T) { // P2.5
	for _, p := range []api.Point{
		pt(257, 0, 0), pt(0, -257, 0), pt(0, 0, 257), pt(math.MaxInt, 0, 0), pt(0, math.MinInt, 0), pt(math.MinInt, math.MaxInt, math.MinInt),
	} {
		refused[bool](t, "P2.5 On", api.ErrArg)(shape.On(octa(3), p))
		refused[int](t, "P2.5 Winding", api.ErrArg)(shape.Winding(octa(3), p))
	}
	refused[int](t, "P2.5 ErrOn", api.ErrOn)(shape.Winding(octa(3), pt(3, 0, 0)))
}
