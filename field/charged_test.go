package field_test

import (
	"fmt"
	"math"
	"math/rand/v2"
	"slices"
	"testing"

	"facet/api"
	"facet/field"
	"facet/shape"
	"facet/span"
)

func charged(p api.Panel, charge int) api.Charged { return api.Charged{Panel: p, Charge: charge} }

// some returns n charged panels with coordinates up to size.
func some(r *rand.Rand, n, size int) []api.Charged {
	var l []api.Charged
	for range n {
		l = append(l, charged(somePanel(r, size), r.IntN(201)-100))
	}
	return l
}

func many(c api.Charged, n int) []api.Charged { return slices.Repeat([]api.Charged{c}, n) }

func TestValidateCharged(t *testing.T) { // P3.3
	flat, out := api.Panel{}, tri(pt(65, 0, 0), pt(0, 1, 0), pt(0, 0, 1))
	for _, c := range []struct {
		name string
		l    []api.Charged
		want api.Errno
	}{
		{"none", nil, api.OK},
		{"empty", []api.Charged{}, api.OK},
		{"one", many(charged(small, 0), 1), api.OK},
		{"greatest charges", []api.Charged{charged(small, 100), charged(small, -100)}, api.OK},
		{"as many as may be", many(charged(small, 1), 96), api.OK},
		{"too many", many(charged(small, 1), 97), api.ErrLarge},
		{"too many before flat", many(charged(flat, 1), 97), api.ErrLarge},
		{"too many before a charge", many(charged(small, 101), 97), api.ErrLarge},
		{"charge too large", many(charged(small, 101), 1), api.ErrArg},
		{"charge too small", many(charged(small, -101), 1), api.ErrArg},
		{"greatest number", many(charged(small, math.MaxInt), 1), api.ErrArg},
		{"smallest number", many(charged(small, math.MinInt), 1), api.ErrArg},
		{"flat", many(charged(flat, 1), 1), api.ErrFlat},
		{"flat before its charge", many(charged(flat, 101), 1), api.ErrFlat},
		{"out of range", many(charged(out, 1), 1), api.ErrArg},
		{"one by one: charge, flat", []api.Charged{charged(small, 101), charged(flat, 1)}, api.ErrArg},
		{"one by one: flat, charge", []api.Charged{charged(flat, 1), charged(small, 101)}, api.ErrFlat},
		{"one by one: out of range, flat", []api.Charged{charged(out, 1), charged(flat, 1)}, api.ErrArg},
		{"one by one: flat, out of range", []api.Charged{charged(flat, 1), charged(out, 1)}, api.ErrFlat},
		{"the last one", append(many(charged(small, 1), 95), charged(small, 101)), api.ErrArg},
	} {
		expect(t, "P3.3 ValidateCharged, "+c.name, field.ValidateCharged(c.l), c.want)
		if c.want == api.OK {
			continue
		}
		// Potential and Clear have the same errors first.
		for _, x := range []api.Point{pt(9, 9, 9), small.A, pt(257, 0, 0)} {
			for _, depth := range []int{0, 3, -1, 4} {
				expect(t, "P3.3 Potential, "+c.name, res(field.Potential(c.l, x, depth)), refused(c.want))
				clear, e := field.Clear(c.l, x, depth)
				expect(t, "P3.3 Clear, "+c.name, clear, false)
				expect(t, "P3.3 Clear, "+c.name, e, c.want)
			}
		}
	}
}

// lookAtPotential compares Potential and Clear with the reference, and returns the error.
func lookAtPotential(t *testing.T, l []api.Charged, x api.Point, depth int) api.Errno {
	t.Helper()
	got := res(field.Potential(l, x, depth))
	expect(t, fmt.Sprint("P3.3 Potential of ", l, " at ", x, depth), got, res(referencePotential(l, x, depth)))
	clear, e := field.Clear(l, x, depth)
	if clear != (got.e == api.OK) || e != api.OK {
		t.Error("P3.3 Clear:", l, x, depth, clear, e)
	}
	return got.e
}

func TestPotential(t *testing.T) { // P3.3
	r := random()
	seen := map[api.Errno]int{}
	for range 60 {
		l := some(r, r.IntN(6), 2+r.IntN(12))
		for range 12 {
			x := somewhere(r, 2+r.IntN(20))
			truth := 0.0
			for _, c := range l {
				truth += float64(c.Charge) * toTriangle(c.Panel).mean(toVec(x))
			}
			wide := sp(-api.MaxFix, api.MaxFix)
			for depth := range api.MaxDepth + 1 {
				e := lookAtPotential(t, l, x, depth)
				seen[e]++
				if e != api.OK {
					continue
				}
				s, _ := field.Potential(l, x, depth)
				enclosesTruth(t, "P3.3 Potential", s, truth, 1e-9)
				if in, _ := span.Within(s, wide); !in {
					t.Error("S2 Potential:", l, x, depth, s, "is not within", wide)
				}
				wide = s
			}
		}
	}
	if seen[api.OK] < 100 || seen[api.ErrNear] < 100 {
		t.Error("P3.3: too few of a kind:", seen)
	}
}

func TestPotentialExamples(t *testing.T) { // P3.3
	x := pt(1, 1, 8)
	for _, none := range [][]api.Charged{nil, {}} {
		expect(t, "P3.3 none", res(field.Potential(none, x, 3)), res(sp(0, 0), api.OK))
		if clear, e := field.Clear(none, x, 0); !clear || e != api.OK {
			t.Error("P3.3 Clear of none:", clear, e)
		}
		expect(t, "P3.3 none", res(field.Potential(none, pt(0, 0, -257), 0)), refused(api.ErrArg))
	}
	for charge, want := range map[int]api.Span{
		1: sp(129070, 131072), 2: sp(258140, 262144), 0: sp(0, 0), -1: sp(-131072, -129070),
		100: sp(12907000, 13107200), -100: sp(-13107200, -12907000),
	} {
		expect(t, "P3.3 charge", res(field.Potential(many(charged(small, charge), 1), x, 0)), res(want, api.OK))
	}
	both := []api.Charged{charged(small, 3), charged(small, -2)}
	expect(t, "P3.3 opposite charges", res(field.Potential(both, x, 0)), res(sp(3*129070-2*131072, 3*131072-2*129070), api.OK))
	full := many(charged(small, 100), 96)
	expect(t, "P3.3 as much as may be", res(field.Potential(full, x, 0)), res(sp(9600*129070, 9600*131072), api.OK))

	// One panel that is near decides, also with the charge 0.
	nearby := charged(large, 0)
	for depth := range api.MaxDepth + 1 {
		for _, l := range [][]api.Charged{{nearby}, {nearby, charged(small, 5)}, {charged(small, 5), nearby}} {
			at, want := pt(7, 4, 0), api.OK
			if depth < 2 {
				want = api.ErrNear
			}
			expect(t, "P3.3 near", lookAtPotential(t, l, at, depth), want)
			expect(t, "P3.3 on a panel", lookAtPotential(t, l, pt(3, 2, 0), depth), api.ErrNear)
		}
	}
}

func tetra(a, b, c, d api.Point) api.Mesh {
	return api.Mesh{Points: []api.Point{a, b, c, d}, Faces: [][3]int{{0, 1, 2}, {0, 2, 3}, {0, 3, 1}, {1, 3, 2}}}
}

// blunt is a regular tetrahedron in the cube from -c to c, mirrored or not.
func blunt(c int, mirrored bool) api.Mesh {
	k := c
	if mirrored {
		k = -c
	}
	m := tetra(pt(k, k, k), pt(k, -k, -k), pt(-k, k, -k), pt(-k, -k, k))
	if shape.Validate(m) != api.OK {
		m = tetra(pt(k, -k, -k), pt(k, k, k), pt(-k, k, -k), pt(-k, -k, k))
	}
	return m
}

// turnedOver has the faces of a mesh turned over: it is valid as a part only.
func turnedOver(m api.Mesh) api.Mesh {
	m.Faces = slices.Clone(m.Faces)
	for i, f := range m.Faces {
		m.Faces[i] = [3]int{f[1], f[0], f[2]}
	}
	return m
}

// joined lays two meshes side by side, without asking whether they are valid.
func joined(a, b api.Mesh) api.Mesh {
	m := api.Mesh{Points: slices.Concat(a.Points, b.Points), Faces: slices.Clone(a.Faces)}
	for _, f := range b.Faces {
		m.Faces = append(m.Faces, [3]int{f[0] + len(a.Points), f[1] + len(a.Points), f[2] + len(a.Points)})
	}
	return m
}

// body is a mesh, and some points beside those that a test chooses at random.
type body struct {
	name   string
	m      api.Mesh
	points []api.Point
}

func bodies() []body {
	box := func(a, b, c int) api.Mesh { return must(shape.Block(a, b, c)) }
	at := func(m api.Mesh, p api.Point) api.Mesh { return must(shape.Move(m, p)) }
	greatest := box(1, 1, 1)
	for i, p := range greatest.Points {
		greatest.Points[i] = pt(128*p.X-64, 128*p.Y-64, 128*p.Z-64)
	}
	return []body{
		{"cube", box(2, 2, 2), []api.Point{pt(1, 1, 1)}},
		{"box", at(box(9, 12, 7), pt(-4, -6, -3)), []api.Point{pt(0, 0, 0)}},
		{"greatest cube", greatest, []api.Point{pt(0, 0, 0), pt(63, 1, 1), pt(65, 1, 2)}},
		{"octahedron", must(shape.Octa(6)), []api.Point{pt(0, 0, 0), pt(4, 4, 4)}},
		{"finer octahedron", must(shape.Finer(must(shape.Octa(3)))), []api.Point{pt(1, 0, 0)}},
		{"box in a box", joined(box(16, 16, 16), at(box(10, 10, 10), pt(3, 3, 3))), []api.Point{pt(8, 8, 8), pt(7, 8, 9)}},
		{"cavity", joined(box(16, 16, 16), turnedOver(at(box(10, 10, 10), pt(3, 3, 3)))), []api.Point{pt(8, 8, 8)}},
		{"one turned over", joined(box(16, 16, 16), turnedOver(at(box(10, 10, 10), pt(20, 0, 0)))), []api.Point{pt(25, 5, 5), pt(24, 6, 5), pt(26, 4, 4)}},
		{"tetrahedron", blunt(50, false), []api.Point{pt(0, 0, 0), pt(51, 0, 0)}},
		{"two tetrahedra", joined(blunt(50, false), blunt(50, true)), []api.Point{pt(3, 1, 2), pt(51, 0, 0)}},
		{"three in a cluster", joined(joined(blunt(20, false), blunt(21, true)), blunt(22, false)), []api.Point{pt(0, 0, 0)}},
	}
}

func TestFlux(t *testing.T) { // P3.4, S2, S3
	r := random()
	windings, errors := map[int]int{}, map[api.Errno]int{}
	for _, b := range bodies() {
		if e := shape.Validate(b.m); e != api.OK {
			t.Fatal("P3.4: not a mesh:", b.name, e)
		}
		lo, hi, _ := shape.Box(b.m)
		l := b.points
		for range 12 {
			l = append(l, pt(lo.X-2+r.IntN(hi.X-lo.X+5), lo.Y-2+r.IntN(hi.Y-lo.Y+5), lo.Z-2+r.IntN(hi.Z-lo.Z+5)))
		}
		for _, x := range l {
			lookAtFlux(t, b, x, windings, errors)
		}
	}
	for n := -1; n <= 2; n++ {
		if windings[n] < 5 {
			t.Error("P3.4: too few points with the winding number", n, windings)
		}
	}
	if errors[api.ErrNear] < 10 || errors[api.ErrLarge] < 1 {
		t.Error("P3.4: too few errors:", errors)
	}
}

// lookAtFlux compares Flux with the reference, with Winding, and with itself at
// the depth before; it counts what was met.
func lookAtFlux(t *testing.T, b body, x api.Point, windings map[int]int, errors map[api.Errno]int) {
	t.Helper()
	wide := sp(-api.MaxFix, api.MaxFix)
	for depth := range api.MaxDepth + 1 {
		got := res(field.Flux(b.m, x, depth))
		expect(t, fmt.Sprint("P3.4 Flux of ", b.name, " at ", x, depth), got, res(referenceFlux(b.m, x, depth)))
		errors[got.e]++
		if got.e != api.OK {
			continue
		}
		n, e := shape.Winding(b.m, x)
		if e != api.OK {
			t.Error("P3.4 Flux on the surface:", b.name, x, got)
		}
		windings[n]++
		enclosesTruth(t, "S3 Flux of "+b.name, got.s, 4*math.Pi*float64(n), 1e-9)
		if in, _ := span.Within(got.s, wide); !in {
			t.Error("S2 Flux:", b.name, x, depth, got.s, "is not within", wide)
		}
		wide = got.s
	}
}

func TestFluxExamples(t *testing.T) { // P3.4
	cube := must(shape.Block(2, 2, 2))
	// Each face has the far distance 3 and the near distance 1 from the middle, and d is 4.
	lo, _ := referencePower(3, 1, 3)
	expect(t, "P3.4 cube", res(field.Flux(cube, pt(1, 1, 1), 0)), res(sp(12*2*lo, 12*2*one), api.OK))
	expect(t, "P3.4 corner", res(field.Flux(cube, pt(2, 2, 2), 3)), refused(api.ErrNear))
	if s, e := field.Flux(cube, pt(256, 256, -256), 3); e != api.OK || s.Lo > 0 || s.Hi < 0 {
		t.Error("P3.4 far away:", s, e)
	}
}

func TestFluxErrors(t *testing.T) { // P3.4, R1, R2
	cube := must(shape.Block(2, 2, 2))
	expect(t, "P3.4 mesh first", res(field.Flux(api.Mesh{}, pt(257, 0, 0), 9)), refused(api.ErrLarge))
	open := api.Mesh{Points: cube.Points, Faces: cube.Faces[1:]}
	expect(t, "P3.4 mesh first", res(field.Flux(open, pt(0, 0, 0), 0)), refused(api.ErrOpen))
	expect(t, "P3.4 mesh first", res(field.Flux(turnedOver(cube), pt(9, 9, 9), 4)), refused(api.ErrTurned))
	expect(t, "P3.4 depth before near", res(field.Flux(cube, pt(2, 2, 2), 4)), refused(api.ErrArg))
	expect(t, "P3.4 point before near", res(field.Flux(cube, pt(2, -257, 2), 0)), refused(api.ErrArg))

	// One by one: from 1 beside its box, a face of the large body is too much; the
	// small body is near.
	big := must(shape.Move(blunt(60, false), pt(-4, 0, 0)))
	little := must(shape.Move(must(shape.Block(4, 4, 4)), pt(56, -2, -2)))
	x := pt(57, -2, -2)
	expect(t, "P3.4 one large", res(field.Flux(big, x, 0)), refused(api.ErrLarge))
	expect(t, "P3.4 one near", res(field.Flux(little, x, 0)), refused(api.ErrNear))
	if shape.Validate(joined(big, little)) != api.OK {
		t.Fatal("P3.4: not a mesh")
	}
	expect(t, "P3.4 large, then near", res(field.Flux(joined(big, little), x, 0)), refused(api.ErrLarge))
	expect(t, "P3.4 near, then large", res(field.Flux(joined(little, big), x, 0)), refused(api.ErrNear))

	// No face is too much, but all together are.
	star := joined(blunt(50, false), blunt(50, true))
	for _, f := range must(shape.Panels(star)) {
		if s, e := field.SolidAngle(f, pt(51, 0, 0), 0); e != api.OK {
			t.Error("P3.4 a face of the star:", s, e)
		}
	}
	expect(t, "P3.4 the sum is large", res(field.Flux(star, pt(51, 0, 0), 0)), refused(api.ErrLarge))
	expect(t, "P3.4 finer", res(field.Flux(star, pt(51, 0, 0), 3)), res(referenceFlux(star, pt(51, 0, 0), 3)))
}

func TestArgumentsStay(t *testing.T) { // R5
	l := some(random(), 5, 9)
	before := slices.Clone(l)
	m := must(shape.Octa(3))
	again := must(shape.Octa(3))
	for depth := range api.MaxDepth + 1 {
		field.ValidateCharged(l)
		field.Potential(l, pt(50, 40, 30), depth)
		field.Clear(l, pt(50, 40, 30), depth)
		field.Flux(m, pt(0, 0, 0), depth)
	}
	if !slices.Equal(l, before) || !slices.Equal(m.Points, again.Points) || !slices.Equal(m.Faces, again.Faces) {
		t.Error("R5: an argument was changed")
	}
}
