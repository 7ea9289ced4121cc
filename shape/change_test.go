package shape_test

import (
	"math"
	"slices"
	"testing"

	"facet/api"
	"facet/shape"
)

// each changes the points of a mesh one by one.
func each(m api.Mesh, change func(x, y, z int) api.Point) api.Mesh {
	m = clone(m)
	for i, p := range m.Points {
		m.Points[i] = change(p.X, p.Y, p.Z)
	}
	return m
}

// expectValid compares a result with a mesh that may be invalid.
func expectValid(t *testing.T, what string, want api.Mesh) func(m api.Mesh, e api.Errno) {
	if e := referenceValidate(want); e != api.OK {
		return refused[api.Mesh](t, what, e)
	}
	return expectMesh(t, what, want)
}

func TestMove(t *testing.T) { // P2.6
	for _, a := range zoo() {
		for _, v := range []api.Point{pt(0, 0, 0), pt(1, -2, 3), pt(0, -60, 0), pt(128, -128, 128), pt(-128, 0, 0)} {
			want := each(a.m, func(x, y, z int) api.Point { return pt(x+v.X, y+v.Y, z+v.Z) })
			expectValid(t, "P2.6 Move "+a.name, want)(shape.Move(a.m, v))
		}
	}
	corner := at(box(1, 2, 3), pt(-64, -64, -64))
	expectMesh(t, "P2.6 Move through all", at(corner, pt(127, 126, 125)))(shape.Move(corner, pt(127, 126, 125)))
	refused[api.Mesh](t, "P2.6 Move out", api.ErrArg)(shape.Move(corner, pt(128, 0, 0)))
	refused[api.Mesh](t, "P2.6 Move out", api.ErrArg)(shape.Move(corner, pt(0, 0, -1)))
	for _, v := range []api.Point{pt(129, 0, 0), pt(0, -129, 0), pt(0, 0, 129), pt(math.MaxInt, 0, math.MinInt), pt(0, math.MinInt, 0)} {
		refused[api.Mesh](t, "P2.6 Move", api.ErrArg)(shape.Move(octa(1), v))
		refused[api.Mesh](t, "R2 Move", api.ErrTurned)(shape.Move(reversed(octa(1)), v))
	}
}

func TestScale(t *testing.T) { // P2.6
	for _, a := range zoo() {
		for _, k := range []int{1, 2, 3, 64, 65, 128} {
			want := each(a.m, func(x, y, z int) api.Point { return pt(k*x, k*y, k*z) })
			expectValid(t, "P2.6 Scale "+a.name, want)(shape.Scale(a.m, k))
		}
	}
	expectMesh(t, "P2.6 Scale", octa(64))(shape.Scale(octa(1), 64))
	refused[api.Mesh](t, "P2.6 Scale out", api.ErrArg)(shape.Scale(octa(1), 65))
	for _, k := range []int{0, -1, 129, math.MinInt, math.MaxInt} {
		refused[api.Mesh](t, "P2.6 Scale", api.ErrArg)(shape.Scale(octa(1), k))
		refused[api.Mesh](t, "R2 Scale", api.ErrTurned)(shape.Scale(reversed(octa(1)), k))
	}
	small := box(1, 1, 1)
	twice := must(shape.Scale(small, 2))
	expect(t, "P2.6 Scale: the volume", 8*6)(shape.Volume6(twice))
}

func TestTurnAndMirror(t *testing.T) { // P2.6
	for _, a := range zoo() {
		expectMesh(t, "P2.6 Turn "+a.name, each(a.m, func(x, y, z int) api.Point { return pt(-y, x, z) }))(shape.Turn(a.m))
		want := each(a.m, func(x, y, z int) api.Point { return pt(-x, y, z) })
		for i, f := range want.Faces {
			want.Faces[i] = [3]int{f[0], f[2], f[1]}
		}
		expectMesh(t, "P2.6 Mirror "+a.name, want)(shape.Mirror(a.m))
		if m := must(shape.Mirror(must(shape.Mirror(a.m)))); !equal(m, a.m) {
			t.Error("P2.6 Mirror twice:", a.name, m)
		}
		m := a.m
		for range 4 {
			m = must(shape.Turn(m))
		}
		if !equal(m, a.m) {
			t.Error("P2.6 Turn four times:", a.name, m)
		}
	}
}

// referenceFiner looks for the middles among the sides in order.
func referenceFiner(m api.Mesh) api.Mesh {
	fine := each(m, func(x, y, z int) api.Point { return pt(2*x, 2*y, 2*z) })
	fine.Faces = nil
	var edges [][2]int
	for _, f := range m.Faces {
		n := [3]int{}
		for k := range 3 {
			p, q := f[k], f[(k+1)%3]
			n[k] = slices.IndexFunc(edges, func(e [2]int) bool { return e == [2]int{p, q} || e == [2]int{q, p} })
			if n[k] < 0 {
				n[k] = len(edges)
				edges = append(edges, [2]int{p, q})
				a, b := fine.Points[p], fine.Points[q]
				fine.Points = append(fine.Points, pt((a.X+b.X)/2, (a.Y+b.Y)/2, (a.Z+b.Z)/2))
			}
			n[k] += len(m.Points)
		}
		fine.Faces = append(fine.Faces, [3]int{f[0], n[0], n[2]}, [3]int{n[0], f[1], n[1]}, [3]int{n[2], n[1], f[2]}, [3]int{n[0], n[1], n[2]})
	}
	return fine
}

func TestFiner(t *testing.T) { // P2.7
	for _, a := range zoo() {
		expectValid(t, "P2.7 "+a.name, referenceFiner(a.m))(shape.Finer(a.m))
	}
	fine := must(shape.Finer(octa(1)))
	if len(fine.Points) != 18 || len(fine.Faces) != 32 {
		t.Error("example 2:", fine)
	}
	expect(t, "example 2", 64)(shape.Volume6(fine))
	// Written out: the first faces of a tetrahedron.
	four := must(shape.Finer(tetra(pt(0, 0, 0), pt(0, 1, 0), pt(1, 0, 0), pt(0, 0, 1))))
	points := []api.Point{
		pt(0, 0, 0), pt(0, 2, 0), pt(2, 0, 0), pt(0, 0, 2),
		pt(0, 1, 0), pt(1, 1, 0), pt(1, 0, 0), pt(1, 0, 1), pt(0, 0, 1), pt(0, 1, 1),
	}
	faces := [][3]int{
		{0, 4, 6}, {4, 1, 5}, {6, 5, 2}, {4, 5, 6},
		{0, 6, 8}, {6, 2, 7}, {8, 7, 3}, {6, 7, 8},
		{0, 8, 4}, {8, 3, 9}, {4, 9, 1}, {8, 9, 4},
		{1, 9, 5}, {9, 3, 7}, {5, 7, 2}, {9, 7, 5},
	}
	expectMesh(t, "P2.7 written out", api.Mesh{Points: points, Faces: faces})(four, api.OK)
}

func TestFinerRefused(t *testing.T) { // P2.7, P2.1
	expectMesh(t, "P2.7 as large as may be", referenceFiner(octa(32)))(shape.Finer(octa(32)))
	refused[api.Mesh](t, "P2.7 a coordinate", api.ErrArg)(shape.Finer(octa(33)))
	refused[api.Mesh](t, "P2.7 too many faces", api.ErrLarge)(shape.Finer(must(shape.Finer(octa(1)))))
	refused[api.Mesh](t, "P2.7 large before a coordinate", api.ErrLarge)(shape.Finer(must(shape.Finer(octa(32)))))
	two := join(box(1, 1, 1), at(box(1, 1, 1), pt(5, 0, 0)))
	if n := referenceFiner(two); len(n.Points) != 52 || len(n.Faces) != 96 {
		t.Error("P2.7 the limits:", len(n.Points), len(n.Faces))
	}
	expectMesh(t, "P2.7 as many faces as may be", referenceFiner(two))(shape.Finer(two))
	crossed := join(tetra(pt(0, 0, 0), pt(2, 2, 0), pt(1, 1, 3), pt(2, 0, 5)), tetra(pt(2, 0, 0), pt(0, 2, 0), pt(1, 1, -3), pt(2, 2, -5)))
	if e := shape.Validate(crossed); e != api.OK {
		t.Error("P2.7 edges may cross:", e)
	}
	refused[api.Mesh](t, "P2.7 middles that are equal", api.ErrArg)(shape.Finer(crossed))
	stuck := join(octa(2), tetra(pt(1, 1, 0), pt(5, 5, 0), pt(5, 6, 1), pt(5, 5, 4)))
	if e := shape.Validate(stuck); e != api.OK {
		t.Error("P2.7 a corner may lie on an edge:", e)
	}
	refused[api.Mesh](t, "P2.7 a middle that is a corner", api.ErrArg)(shape.Finer(stuck))
}

func TestUnite(t *testing.T) { // P2.8
	l := zoo()
	for _, a := range l {
		for _, b := range l {
			expectValid(t, "P2.8 "+a.name+" and "+b.name, join(a.m, b.m))(shape.Unite(a.m, b.m))
			away := at(b.m, pt(0, 0, 31))
			if shape.Validate(away) == api.OK {
				expectValid(t, "P2.8 "+a.name+" and "+b.name, join(a.m, away))(shape.Unite(a.m, away))
			}
		}
	}
	refused[api.Mesh](t, "P2.8 equal points", api.ErrArg)(shape.Unite(octa(1), octa(1)))
	refused[api.Mesh](t, "P2.8 one equal point", api.ErrArg)(shape.Unite(box(2, 2, 2), at(octa(1), pt(1, 0, 0))))
	refused[api.Mesh](t, "P2.8 large before equal points", api.ErrLarge)(shape.Unite(eightBoxes(), eightBoxes()))
	refused[api.Mesh](t, "P2.8 too many", api.ErrLarge)(shape.Unite(eightBoxes(), octa(64)))
	m := must(shape.Unite(octa(1), octa(2)))
	expect(t, "P2.8 one in the other", 2)(shape.Winding(m, pt(0, 0, 0)))
	expect(t, "P2.8 one in the other", 2)(shape.Parts(m))
}

func TestBlock(t *testing.T) { // P2.8
	want := api.Mesh{
		Points: []api.Point{pt(0, 0, 0), pt(1, 0, 0), pt(0, 2, 0), pt(1, 2, 0), pt(0, 0, 3), pt(1, 0, 3), pt(0, 2, 3), pt(1, 2, 3)},
		Faces: [][3]int{
			{0, 2, 3}, {0, 3, 1}, {4, 5, 7}, {4, 7, 6}, {0, 1, 5}, {0, 5, 4},
			{2, 6, 7}, {2, 7, 3}, {0, 4, 6}, {0, 6, 2}, {1, 3, 7}, {1, 7, 5},
		},
	}
	expectMesh(t, "P2.8 Block", want)(shape.Block(1, 2, 3))
	for _, n := range [][3]int{{1, 1, 1}, {64, 64, 64}, {64, 1, 7}, {5, 64, 1}} {
		expect(t, "P2.8 Block", 6*n[0]*n[1]*n[2])(shape.Volume6(must(shape.Block(n[0], n[1], n[2]))))
	}
	for _, bad := range []int{0, -1, 65, math.MinInt, math.MaxInt} {
		refused[api.Mesh](t, "P2.8 Block", api.ErrArg)(shape.Block(bad, 1, 1))
		refused[api.Mesh](t, "P2.8 Block", api.ErrArg)(shape.Block(1, bad, 1))
		refused[api.Mesh](t, "P2.8 Block", api.ErrArg)(shape.Block(1, 1, bad))
		refused[api.Mesh](t, "P2.8 Octa", api.ErrArg)(shape.Octa(bad))
	}
	m := must(shape.Block(1, 2, 3))
	clear(m.Points)
	clear(m.Faces)
	expectMesh(t, "R5 Block", want)(shape.Block(1, 2, 3))
}

func TestOcta(t *testing.T) { // P2.8
	want := api.Mesh{
		Points: []api.Point{pt(7, 0, 0), pt(-7, 0, 0), pt(0, 7, 0), pt(0, -7, 0), pt(0, 0, 7), pt(0, 0, -7)},
		Faces:  [][3]int{{0, 2, 4}, {2, 1, 4}, {1, 3, 4}, {3, 0, 4}, {2, 0, 5}, {1, 2, 5}, {3, 1, 5}, {0, 3, 5}},
	}
	expectMesh(t, "P2.8 Octa", want)(shape.Octa(7))
	for _, r := range []int{1, 2, 64} {
		expect(t, "P2.8 Octa", 8*r*r*r)(shape.Volume6(must(shape.Octa(r))))
	}
	m := must(shape.Octa(7))
	clear(m.Points)
	clear(m.Faces)
	expectMesh(t, "R5 Octa", want)(shape.Octa(7))
}
