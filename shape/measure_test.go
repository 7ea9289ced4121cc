package shape_test

import (
	"math/big"
	"slices"
	"testing"

	"facet/api"
	"facet/shape"
)

// referenceVolume6 adds up, for each face, the prism between it and the plane
// x = 0: the mean of x times the area as seen along x.
func referenceVolume6(m api.Mesh) int {
	sum := 0
	for _, f := range m.Faces {
		a, b, c := m.Points[f[0]], m.Points[f[1]], m.Points[f[2]]
		sum += (a.X + b.X + c.X) * ((b.Y-a.Y)*(c.Z-a.Z) - (b.Z-a.Z)*(c.Y-a.Y))
	}
	return sum
}

// referenceCenter24 adds up the integrals of x over these prisms, and those of y and z.
func referenceCenter24(m api.Mesh) api.Point {
	first := func(turn func(p api.Point) (x, y, z int)) int {
		sum := 0
		for _, f := range m.Faces {
			ax, ay, az := turn(m.Points[f[0]])
			bx, by, bz := turn(m.Points[f[1]])
			cx, cy, cz := turn(m.Points[f[2]])
			sum += (ax*ax + bx*bx + cx*cx + ax*bx + bx*cx + cx*ax) * ((by-ay)*(cz-az) - (bz-az)*(cy-ay))
		}
		return sum
	}
	return pt(
		first(func(p api.Point) (x, y, z int) { return p.X, p.Y, p.Z }),
		first(func(p api.Point) (x, y, z int) { return p.Y, p.Z, p.X }),
		first(func(p api.Point) (x, y, z int) { return p.Z, p.X, p.Y }),
	)
}

// referenceArea adds up the least spans of the areas, from Heron's square in
// the squares of the sides: 16 * area^2 is 4 p q - (p + q - r)^2.
func referenceArea(m api.Mesh) (api.Span, api.Errno) {
	apart := func(a, b api.Point) int {
		return (a.X-b.X)*(a.X-b.X) + (a.Y-b.Y)*(a.Y-b.Y) + (a.Z-b.Z)*(a.Z-b.Z)
	}
	lo, hi := 0, 0
	for _, f := range m.Faces {
		a, b, c := m.Points[f[0]], m.Points[f[1]], m.Points[f[2]]
		p, q, r := apart(a, b), apart(a, c), apart(b, c)
		square := new(big.Int).Lsh(big.NewInt(int64((4*p*q-(p+q-r)*(p+q-r))/4)), 40)
		down := new(big.Int).Sqrt(square)
		up := new(big.Int).Set(down)
		if new(big.Int).Mul(down, down).Cmp(square) < 0 {
			up.Add(up, big.NewInt(1))
		}
		lo += int(down.Int64()) / 2
		hi += (int(up.Int64()) + 1) / 2
	}
	if hi > api.MaxFix {
		return api.Span{}, api.ErrLarge
	}
	return api.Span{Lo: lo, Hi: hi}, api.OK
}

func TestPanels(t *testing.T) { // P2.2
	for _, a := range zoo() {
		var want []api.Panel
		for _, f := range a.m.Faces {
			want = append(want, api.Panel{A: a.m.Points[f[0]], B: a.m.Points[f[1]], C: a.m.Points[f[2]]})
		}
		if l, e := shape.Panels(a.m); e != api.OK || !slices.Equal(l, want) {
			t.Error("P2.2:", a.name, l, e)
		}
	}
}

func TestVolume6(t *testing.T) { // P2.3
	for _, a := range zoo() {
		expect(t, "P2.3 Volume6 of "+a.name, referenceVolume6(a.m))(shape.Volume6(a.m))
		expect(t, "P2.3 Center24 of "+a.name, referenceCenter24(a.m))(shape.Center24(a.m))
	}
	expect(t, "example 1", 36)(shape.Volume6(box(1, 2, 3)))
	expect(t, "example 2", 8)(shape.Volume6(octa(1)))
	expect(t, "DOC.md's example 2", 6)(shape.Volume6(box(1, 1, 1)))
	expect(t, "P2.3 frame", 8*8*6)(shape.Volume6(frame()))
	expect(t, "P2.3 cavity", (216-8)*6)(shape.Volume6(join(box(6, 6, 6), reversed(at(box(2, 2, 2), pt(2, 2, 2))))))
	expect(t, "example 3", pt(192, 192, 192))(shape.Center24(box(2, 2, 2)))
	expect(t, "P2.3 Center24 of a block", pt(6*12, 6*24, 6*36))(shape.Center24(box(1, 2, 3)))
	expect(t, "P2.3 Center24 about the middle", pt(0, 0, 0))(shape.Center24(octa(5)))
	expect(t, "P2.3 the greatest", pt(64*64*64*24*32, 64*64*64*24*32, 64*64*64*24*32))(shape.Center24(box(64, 64, 64)))
}

func TestArea(t *testing.T) { // P2.3
	for _, a := range zoo() {
		want, e := referenceArea(a.m)
		if s, f := shape.Area(a.m); s != want || f != e {
			t.Error("P2.3 Area:", a.name, s, f, want, e)
		}
	}
	expect(t, "P2.3 Area of a block", api.Span{Lo: 22 * api.One, Hi: 22 * api.One})(shape.Area(box(1, 2, 3)))
	// The root of 3 is 1.7320508 = 1816186.9 / One; half of it lies between 908093 and 908094.
	expect(t, "P2.3 Area of an octahedron", api.Span{Lo: 8 * 908093, Hi: 8 * 908094})(shape.Area(octa(1)))
	expect(t, "P2.3 Area on both sides", api.Span{Lo: 8 * 6 * api.One, Hi: 8 * 6 * api.One})(shape.Area(cubes(2, pt(0, 0, 0), pt(1, 1, 1))))
}

func TestAreaLarge(t *testing.T) { // P2.3
	r := random()
	m := join(threefold(r, 4), threefold(r, 4))
	for shape.Validate(m) != api.OK {
		m = join(threefold(r, 4), threefold(r, 4))
	}
	if _, e := shape.Area(m); e != api.OK {
		t.Error("P2.3 Area below the limit:", e)
	}
	all := join(m, threefold(r, 4))
	for shape.Validate(all) != api.OK {
		all = join(m, threefold(r, 4))
	}
	refused[api.Span](t, "P2.3 Area above the limit", api.ErrLarge)(shape.Area(all))
	refused[api.Span](t, "P2.3 turned before large", api.ErrTurned)(shape.Area(reversed(all)))
}
