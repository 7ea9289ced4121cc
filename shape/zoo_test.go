package shape_test

import (
	"math/rand/v2"
	"reflect"
	"slices"
	"testing"

	"facet/api"
	"facet/shape"
)

// The meshes that the tests are held against, and what they share.

func pt(x, y, z int) api.Point { return api.Point{X: x, Y: y, Z: z} }

func random() *rand.Rand { return rand.New(rand.NewPCG(1, 2)) }

func equal(a, b api.Mesh) bool {
	return slices.Equal(a.Points, b.Points) && slices.Equal(a.Faces, b.Faces)
}

func clone(m api.Mesh) api.Mesh {
	return api.Mesh{Points: slices.Clone(m.Points), Faces: slices.Clone(m.Faces)}
}

// must returns a result that has no error.
func must[T any](v T, e api.Errno) T {
	if e != api.OK {
		panic(e)
	}
	return v
}

func isZero(v any) bool {
	r := reflect.ValueOf(v)
	if m, ok := v.(api.Mesh); ok {
		return len(m.Points) == 0 && len(m.Faces) == 0
	}
	if r.Kind() == reflect.Slice {
		return r.Len() == 0
	}
	return r.IsZero()
}

// refused expects an error, and with it the zero value.
func refused[T any](t *testing.T, what string, want api.Errno) func(v T, e api.Errno) {
	return func(v T, e api.Errno) {
		t.Helper()
		if e != want || !isZero(v) {
			t.Errorf("%s: %v %v, want the error %v", what, v, e, want)
		}
	}
}

// expect compares a result that has no error.
func expect[T comparable](t *testing.T, what string, want T) func(v T, e api.Errno) {
	return func(v T, e api.Errno) {
		t.Helper()
		if e != api.OK || v != want {
			t.Errorf("%s: %v %v, want %v", what, v, e, want)
		}
	}
}

func expectMesh(t *testing.T, what string, want api.Mesh) func(m api.Mesh, e api.Errno) {
	return func(m api.Mesh, e api.Errno) {
		t.Helper()
		if e != api.OK || !equal(m, want) {
			t.Errorf("%s: %v %v, want %v", what, m, e, want)
		}
	}
}

// join lays meshes side by side, without asking whether they are valid.
func join(l ...api.Mesh) api.Mesh {
	var all api.Mesh
	for _, m := range l {
		n := len(all.Points)
		all.Points = append(all.Points, m.Points...)
		for _, f := range m.Faces {
			all.Faces = append(all.Faces, [3]int{f[0] + n, f[1] + n, f[2] + n})
		}
	}
	return all
}

// reversed turns all faces over.
func reversed(m api.Mesh) api.Mesh {
	m = clone(m)
	for i, f := range m.Faces {
		m.Faces[i] = [3]int{f[1], f[0], f[2]}
	}
	return m
}

// upright turns a mesh over if its volume is below 0.
func upright(m api.Mesh) api.Mesh {
	if referenceVolume6(m) < 0 {
		return reversed(m)
	}
	return m
}

// at moves points without limits.
func at(m api.Mesh, v api.Point) api.Mesh {
	m = clone(m)
	for i, p := range m.Points {
		m.Points[i] = pt(p.X+v.X, p.Y+v.Y, p.Z+v.Z)
	}
	return m
}

func box(a, b, c int) api.Mesh { return must(shape.Block(a, b, c)) }

func octa(r int) api.Mesh { return must(shape.Octa(r)) }

func tetra(a, b, c, d api.Point) api.Mesh {
	return upright(api.Mesh{Points: []api.Point{a, b, c, d}, Faces: [][3]int{{0, 1, 2}, {0, 2, 3}, {0, 3, 1}, {1, 3, 2}}})
}

// cubes is the surface of some cubes of the size k.
func cubes(k int, l ...api.Point) api.Mesh {
	var m api.Mesh
	number := map[api.Point]int{}
	corner := func(p api.Point) int {
		n, ok := number[p]
		if !ok {
			n = len(m.Points)
			number[p] = n
			m.Points = append(m.Points, pt(k*p.X, k*p.Y, k*p.Z))
		}
		return n
	}
	inside := map[api.Point]bool{}
	for _, c := range l {
		inside[c] = true
	}
	for _, c := range l {
		for _, d := range []api.Point{pt(1, 0, 0), pt(-1, 0, 0), pt(0, 1, 0), pt(0, -1, 0), pt(0, 0, 1), pt(0, 0, -1)} {
			if inside[pt(c.X+d.X, c.Y+d.Y, c.Z+d.Z)] {
				continue
			}
			// u, v and d have the orientation of x, y and z.
			u, v := pt(d.Z, d.X, d.Y), pt(d.Y, d.Z, d.X)
			if d.X+d.Y+d.Z < 0 {
				u, v = v, u
			}
			at := func(s, t int) int { // the corners of the square, doubled about the middle of the cube
				return corner(pt((2*c.X+1+d.X+s*u.X+t*v.X)/2, (2*c.Y+1+d.Y+s*u.Y+t*v.Y)/2, (2*c.Z+1+d.Z+s*u.Z+t*v.Z)/2))
			}
			p, q, r, s := at(-1, -1), at(1, -1), at(1, 1), at(-1, 1)
			m.Faces = append(m.Faces, [3]int{p, q, r}, [3]int{p, r, s})
		}
	}
	return m
}

// frame is the surface of eight cubes around a hole.
func frame() api.Mesh {
	var l []api.Point
	for x := range 3 {
		for y := range 3 {
			if x != 1 || y != 1 {
				l = append(l, pt(x, y, 0))
			}
		}
	}
	return cubes(2, l...)
}

// selfTouching is a row of cubes whose first and last one touch at a corner.
func selfTouching() api.Mesh {
	return cubes(1, pt(0, 0, 0), pt(0, 0, -1), pt(1, 0, -1), pt(2, 0, -1), pt(2, 0, 0), pt(2, 0, 1), pt(2, 1, 1), pt(1, 1, 1))
}

// ring is a torus of 9 points.
func ring() api.Mesh {
	m := api.Mesh{}
	turn := [3]api.Point{pt(1, 0, 0), pt(-1, 1, 0), pt(-1, -1, 0)}
	for _, u := range turn {
		for _, s := range [3][2]int{{3, 0}, {6, 2}, {6, -2}} {
			m.Points = append(m.Points, pt(s[0]*u.X, s[0]*u.Y, s[1]))
		}
	}
	n := func(i, j int) int { return 3*(i%3) + j%3 }
	for i := range 3 {
		for j := range 3 {
			m.Faces = append(m.Faces, [3]int{n(i, j), n(i+1, j), n(i+1, j+1)}, [3]int{n(i, j), n(i+1, j+1), n(i, j+1)})
		}
	}
	return upright(m)
}

// pretzel is two rings that are glued where each lacks a face: two handles.
func pretzel() api.Mesh {
	a, b := ring(), at(ring(), pt(20, 1, 2))
	lost, glued := a.Faces[0], b.Faces[0]
	m := join(a, b)
	n := len(a.Points)
	m.Faces = slices.Concat(a.Faces[1:], m.Faces[len(a.Faces)+1:])
	as := map[int]int{glued[0] + n: lost[0], glued[1] + n: lost[2], glued[2] + n: lost[1]}
	for i, f := range m.Faces {
		for k, c := range f {
			if to, ok := as[c]; ok {
				m.Faces[i][k] = to
			}
		}
	}
	return upright(unusedDropped(m))
}

// unusedDropped drops the points that are in no face.
func unusedDropped(m api.Mesh) api.Mesh {
	var kept api.Mesh
	number := map[int]int{}
	for _, f := range m.Faces {
		for k, c := range f {
			if _, ok := number[c]; !ok {
				number[c] = len(kept.Points)
				kept.Points = append(kept.Points, m.Points[c])
			}
			f[k] = number[c]
		}
		kept.Faces = append(kept.Faces, f)
	}
	return kept
}

// threefold joins each of n points near one corner with each of n near two
// others, by 2*n*n large triangles.
func threefold(r *rand.Rand, n int) api.Mesh {
	for {
		m := api.Mesh{}
		for _, c := range []api.Point{pt(60, 60, 60), pt(-60, -60, 60), pt(-60, 60, -60)} {
			for range n {
				m.Points = append(m.Points, pt(c.X+r.IntN(9)-4, c.Y+r.IntN(9)-4, c.Z+r.IntN(9)-4))
			}
		}
		for i := range n {
			for j := range n {
				m.Faces = append(m.Faces, [3]int{i, n + j, 2*n + (i+j)%n}, [3]int{n + j, i, 2*n + (i+j+1)%n})
			}
		}
		if m = upright(m); referenceValidate(m) == api.OK {
			return m
		}
	}
}

// scattered has the faces of an octahedron, and any corners.
func scattered(r *rand.Rand, size int) api.Mesh {
	for {
		m := octa(1)
		for i := range m.Points {
			m.Points[i] = pt(r.IntN(2*size+1)-size, r.IntN(2*size+1)-size, r.IntN(2*size+1)-size)
		}
		if m = upright(m); referenceValidate(m) == api.OK {
			return m
		}
	}
}

// eightBoxes has as many points and faces as there may be.
func eightBoxes() api.Mesh {
	var l []api.Mesh
	for n := range 8 {
		l = append(l, at(box(1+n, 2, 3), pt(9*n-40, 5*n-10, -n)))
	}
	return join(l...)
}

// pillow is a body without a volume: it may be a part of a mesh.
func pillow() api.Mesh {
	return api.Mesh{Points: []api.Point{pt(7, 7, 7), pt(9, 7, 8), pt(7, 10, 7)}, Faces: [][3]int{{0, 1, 2}, {0, 2, 1}}}
}

type animal struct {
	name           string
	m              api.Mesh
	parts, handles int
}

func zoo() []animal {
	r := random()
	l := []animal{
		{"flat box", box(1, 2, 3), 1, 0},
		{"cube", box(2, 2, 2), 1, 0},
		{"greatest box", box(64, 64, 64), 1, 0},
		{"octahedron", octa(1), 1, 0},
		{"greatest octahedron", octa(64), 1, 0},
		{"finer octahedron", must(shape.Finer(octa(2))), 1, 0},
		{"finer box", must(shape.Finer(box(3, 2, 1))), 1, 0},
		{"tetrahedron", tetra(pt(0, 0, 0), pt(5, 1, 0), pt(1, 4, -1), pt(2, 2, 6)), 1, 0},
		{"cubes in a row", cubes(1, pt(0, 0, 0), pt(1, 0, 0), pt(2, 0, 0)), 1, 0},
		{"cubes at an angle", cubes(2, pt(0, 0, 0), pt(1, 0, 0), pt(1, 1, 0), pt(1, 1, 1)), 1, 0},
		{"cubes that touch at a corner", cubes(1, pt(0, 0, 0), pt(1, 1, 1)), 2, 0},
		{"frame", frame(), 1, 1},
		{"ring", ring(), 1, 1},
		{"two rings", join(ring(), at(ring(), pt(3, 0, 1))), 2, 2},
		{"pretzel", pretzel(), 1, 2},
		{"ring and octahedron", join(ring(), at(octa(2), pt(20, 0, 0))), 2, 1},
		{"self-touching", selfTouching(), 1, 0},
		{"cavity", join(box(6, 6, 6), reversed(at(box(3, 4, 4), pt(1, 1, 1)))), 2, 0},
		{"box in a box", join(box(7, 7, 7), at(box(5, 5, 5), pt(1, 1, 1))), 2, 0},
		{"box beside one turned inside out", join(box(6, 6, 6), reversed(at(box(4, 4, 4), pt(8, 2, 2)))), 2, 0},
		{"octahedron and pillow", join(octa(3), pillow()), 2, 0},
		{"eight boxes", eightBoxes(), 8, 0},
		{"threefold 3", threefold(r, 3), 1, 1},
		{"threefold 4", threefold(r, 4), 1, 3},
	}
	for _, size := range []int{2, 3, 5, 64} {
		l = append(l, animal{"scattered", scattered(r, size), 1, 0})
	}
	return l
}
