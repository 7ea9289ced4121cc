package shape_test

import (
	"math"
	"reflect"
	"slices"
	"testing"

	"facet/api"
	"facet/shape"
)

// referenceFlat reports whether three points are on one line: each of the three
// projections of the triangle has no area.
func referenceFlat(a, b, c api.Point) bool {
	area := func(ax, ay, bx, by, cx, cy int) int { return ax*by - ay*bx + bx*cy - by*cx + cx*ay - cy*ax }
	return area(a.X, a.Y, b.X, b.Y, c.X, c.Y) == 0 && area(a.Y, a.Z, b.Y, b.Z, c.Y, c.Z) == 0 && area(a.Z, a.X, b.Z, b.X, c.Z, c.X) == 0
}

func outside(p api.Point, limit int) bool {
	return min(p.X, p.Y, p.Z) < -limit || max(p.X, p.Y, p.Z) > limit
}

// referenceOpen counts the sides again for each side.
func referenceOpen(faces [][3]int) bool {
	count := func(p, q int) int {
		n := 0
		for _, f := range faces {
			for k := range 3 {
				if f[k] == p && f[(k+1)%3] == q {
					n++
				}
			}
		}
		return n
	}
	for _, f := range faces {
		for k := range 3 {
			if count(f[k], f[(k+1)%3]) != 1 || count(f[(k+1)%3], f[k]) != 1 {
				return true
			}
		}
	}
	return false
}

func referenceValidate(m api.Mesh) api.Errno {
	if len(m.Points) > 64 || len(m.Faces) > 96 || len(m.Faces) == 0 {
		return api.ErrLarge
	}
	for i, p := range m.Points {
		if outside(p, 64) || slices.Contains(m.Points[:i], p) {
			return api.ErrArg
		}
	}
	used := map[int]bool{}
	for _, f := range m.Faces {
		for _, n := range f {
			used[n] = true
			if n < 0 || n > len(m.Points)-1 {
				return api.ErrNone
			}
		}
		if referenceFlat(m.Points[f[0]], m.Points[f[1]], m.Points[f[2]]) {
			return api.ErrFlat
		}
	}
	if referenceOpen(m.Faces) {
		return api.ErrOpen
	}
	if len(used) < len(m.Points) {
		return api.ErrNone
	}
	if referenceVolume6(m) <= 0 {
		return api.ErrTurned
	}
	return api.OK
}

func TestValidateZoo(t *testing.T) { // P2.1
	for _, a := range zoo() {
		if e := shape.Validate(a.m); e != api.OK {
			t.Error("P2.1 valid:", a.name, e)
		}
		want := api.ErrTurned
		if e := shape.Validate(reversed(a.m)); e != want {
			t.Error("P2.1 turned inside out:", a.name, e)
		}
	}
	if n := eightBoxes(); len(n.Points) != api.MaxPoints || len(n.Faces) != api.MaxFaces {
		t.Error("P2.1 the limits:", len(n.Points), len(n.Faces))
	}
}

// fault makes an octahedron with the radius 2 invalid.
type fault struct {
	name string
	e    api.Errno
	do   func(m *api.Mesh)
}

func faults() []fault {
	add := func(points, faces int) func(m *api.Mesh) {
		return func(m *api.Mesh) {
			for n := range points {
				m.Points = append(m.Points, pt(n%64-20, 9, 9+n/64))
			}
			for range faces {
				m.Faces = append(m.Faces, [3]int{0, 2, 4})
			}
		}
	}
	point := func(n int, p api.Point) func(m *api.Mesh) {
		return func(m *api.Mesh) { m.Points[n] = p }
	}
	face := func(n int, f [3]int) func(m *api.Mesh) {
		return func(m *api.Mesh) {
			if n < len(m.Faces) {
				m.Faces[n] = f
			}
		}
	}
	return []fault{
		{"65 points", api.ErrLarge, add(59, 0)},
		{"97 faces", api.ErrLarge, add(0, 89)},
		{"no faces", api.ErrLarge, func(m *api.Mesh) { m.Faces = nil }},
		{"x too great", api.ErrArg, point(0, pt(65, 0, 0))},
		{"y too small", api.ErrArg, point(3, pt(0, -65, 0))},
		{"z far off", api.ErrArg, point(5, pt(0, 0, math.MinInt))},
		{"x far off", api.ErrArg, point(1, pt(math.MaxInt, 0, 0))},
		{"equal points", api.ErrArg, point(4, pt(0, 2, 0))},
		{"number below 0", api.ErrNone, face(0, [3]int{0, 2, -1})},
		{"number far off", api.ErrNone, face(0, [3]int{math.MaxInt, 2, math.MinInt})},
		{"no such point, later", api.ErrNone, face(2, [3]int{1, 3, 64})},
		{"corners on a line", api.ErrFlat, point(4, pt(1, 1, 0))},
		{"corner twice", api.ErrFlat, face(1, [3]int{2, 2, 4})},
		{"corners all one", api.ErrFlat, face(3, [3]int{0, 0, 0})},
		{"a face is lost", api.ErrOpen, func(m *api.Mesh) { m.Faces = m.Faces[:max(0, len(m.Faces)-1)] }},
		{"a face is turned", api.ErrOpen, face(7, [3]int{0, 5, 3})},
		{"a face comes twice", api.ErrOpen, add(0, 1)},
		{"a point is in no face", api.ErrNone, add(1, 0)},
		{"inside out", api.ErrTurned, func(m *api.Mesh) { *m = reversed(*m) }},
		{"no volume", api.ErrTurned, func(m *api.Mesh) {
			for n := range min(6, len(m.Points)) { // above and below 0 0 0 become one plane, inside and out
				if m.Points[n].Z == 2 || m.Points[n].Z == -2 {
					m.Points[n] = pt(1, 1, m.Points[n].Z/2)
				}
			}
			*m = join(*m, reversed(at(*m, pt(10, 0, 0))))
		}},
	}
}

func TestValidateFaults(t *testing.T) { // P2.1
	for _, f := range faults() {
		m := octa(2)
		f.do(&m)
		if e := shape.Validate(m); e != f.e || referenceValidate(m) != f.e {
			t.Error("P2.1:", f.name, e, referenceValidate(m), "want", f.e)
		}
	}
}

func TestValidateTwoFaults(t *testing.T) { // P2.1, R1
	for _, f := range faults() {
		for _, g := range faults() {
			m := octa(2)
			f.do(&m)
			g.do(&m)
			// The second one may undo the first one: the reference tells what is left.
			if e, want := shape.Validate(m), referenceValidate(m); e != want {
				t.Error("P2.1:", f.name, "and", g.name, e, "want", want)
			}
		}
	}
}

func TestValidateOrder(t *testing.T) { // P2.1, R1: two errors at once, written out
	apply := func(m api.Mesh, l ...func(m *api.Mesh)) api.Mesh {
		for _, f := range l {
			f(&m)
		}
		return m
	}
	do := map[string]func(m *api.Mesh){}
	for _, f := range faults() {
		do[f.name] = f.do
	}
	for _, x := range []struct {
		a, b string
		e    api.Errno
	}{
		{"x too great", "65 points", api.ErrLarge},
		{"equal points", "no faces", api.ErrLarge},
		{"number below 0", "97 faces", api.ErrLarge},
		{"inside out", "97 faces", api.ErrLarge},
		{"number below 0", "x too great", api.ErrArg},
		{"corner twice", "equal points", api.ErrArg},
		{"a face is lost", "z far off", api.ErrArg},
		{"corner twice", "number below 0", api.ErrNone},
		{"corner twice", "no such point, later", api.ErrFlat},
		{"corners all one", "no such point, later", api.ErrNone},
		{"a face is lost", "no such point, later", api.ErrNone},
		{"a face is lost", "corner twice", api.ErrFlat},
		{"a face is lost", "a point is in no face", api.ErrOpen},
		{"a face is lost", "inside out", api.ErrOpen},
		{"a point is in no face", "inside out", api.ErrNone},
		{"a point is in no face", "corner twice", api.ErrFlat},
	} {
		m := apply(octa(2), do[x.a], do[x.b])
		if e := shape.Validate(m); e != x.e {
			t.Error("P2.1:", x.a, "and", x.b, e, "want", x.e)
		}
	}
	both := octa(2)
	both.Faces[0] = [3]int{0, 0, 6}
	if e := shape.Validate(both); e != api.ErrNone {
		t.Error("P2.1: a face with both errors:", e)
	}
}

func TestValidateRandom(t *testing.T) { // P2.1
	r := random()
	seen := map[api.Errno]int{}
	for _, a := range zoo() {
		for range 300 {
			m := clone(a.m)
			for range 1 + r.IntN(2) {
				switch r.IntN(6) {
				case 0:
					m.Points[r.IntN(len(m.Points))].X = r.IntN(140) - 70
				case 1:
					m.Points[r.IntN(len(m.Points))] = m.Points[r.IntN(len(m.Points))]
				case 2:
					m.Faces[r.IntN(len(m.Faces))][r.IntN(3)] = r.IntN(len(m.Points)+3) - 1
				case 3:
					n := r.IntN(len(m.Faces))
					m.Faces[n] = m.Faces[r.IntN(len(m.Faces))]
				case 4:
					m.Points = append(m.Points, pt(r.IntN(3), r.IntN(3), r.IntN(3)))
				case 5:
					m = reversed(m)
				}
			}
			e := shape.Validate(m)
			if want := referenceValidate(m); e != want {
				t.Error("P2.1:", m, e, "want", want)
			}
			seen[e]++
		}
	}
	if len(seen) < 7 {
		t.Error("P2.1: the random meshes do not meet every error:", seen)
	}
}

// answer is what a function returned.
type answer struct {
	name   string
	values []any
	e      api.Errno
}

// answers calls all functions with a mesh, with other arguments that are right.
func answers(m api.Mesh) []answer {
	var l []answer
	add := func(name string, f any, more ...any) {
		in := []reflect.Value{reflect.ValueOf(m)}
		for _, v := range more {
			in = append(in, reflect.ValueOf(v))
		}
		a := answer{name: name}
		for _, v := range reflect.ValueOf(f).Call(in) {
			a.values = append(a.values, v.Interface())
		}
		a.e = a.values[len(a.values)-1].(api.Errno)
		a.values = a.values[:len(a.values)-1]
		l = append(l, a)
	}
	add("Panels", shape.Panels)
	add("Volume6", shape.Volume6)
	add("Center24", shape.Center24)
	add("Area", shape.Area)
	add("Edges", shape.Edges)
	add("Parts", shape.Parts)
	add("Handles", shape.Handles)
	add("Box", shape.Box)
	add("On", shape.On, pt(256, 1, 0))
	add("Winding", shape.Winding, pt(256, 1, 0))
	add("On, no such point", shape.On, pt(257, 0, 0))
	add("Winding, no such point", shape.Winding, pt(0, -257, 0))
	add("Move", shape.Move, pt(0, 0, 0))
	add("Move too far", shape.Move, pt(129, 0, 0))
	add("Scale", shape.Scale, 1)
	add("Scale by 0", shape.Scale, 0)
	add("Turn", shape.Turn)
	add("Mirror", shape.Mirror)
	add("Finer", shape.Finer)
	add("Unite", shape.Unite, octa(64))
	add("Unite with an invalid one", shape.Unite, api.Mesh{})
	add("Format", shape.Format)
	return l
}

func TestInvalidMesh(t *testing.T) { // R2, R3
	for _, f := range faults() {
		m := octa(2)
		f.do(&m)
		for _, a := range answers(m) {
			if a.e != f.e {
				t.Error("R2:", f.name, a.name, a.e, "want", f.e)
			}
			for _, v := range a.values {
				if !isZero(v) {
					t.Error("R3:", f.name, a.name, v)
				}
			}
		}
		refused[api.Mesh](t, "R2 Unite with "+f.name, f.e)(shape.Unite(octa(64), m))
	}
	for _, none := range []api.Mesh{{}, {Points: []api.Point{}, Faces: [][3]int{}}} { // R4
		for _, a := range answers(none) {
			if a.e != api.ErrLarge {
				t.Error("R2, R4:", a.name, a.e)
			}
		}
	}
	refused[api.Mesh](t, "R2 the first one's error", api.ErrLarge)(shape.Unite(api.Mesh{}, reversed(octa(1))))
	refused[api.Mesh](t, "R2 the first one's error", api.ErrTurned)(shape.Unite(reversed(octa(1)), api.Mesh{}))
}

func TestArgumentsStay(t *testing.T) { // R5, R11
	for _, a := range zoo() {
		before := clone(a.m)
		first := answers(a.m)
		if !equal(before, a.m) {
			t.Fatal("R5: an argument was changed:", a.name)
		}
		if second := answers(a.m); !reflect.DeepEqual(first, second) {
			t.Error("R11:", a.name)
		}
		for _, x := range first { // a result is new memory: spoil it
			for _, v := range x.values {
				if m, ok := v.(api.Mesh); ok {
					clear(m.Points[:cap(m.Points)])
					clear(m.Faces[:cap(m.Faces)])
				}
				if l, ok := v.([]api.Panel); ok {
					clear(l[:cap(l)])
				}
			}
		}
		if !equal(before, a.m) {
			t.Error("R5: a result shares memory with an argument:", a.name)
		}
	}
}

func TestValidatePanel(t *testing.T) { // P2.2
	good := api.Panel{A: pt(-64, 64, 0), B: pt(64, -64, 0), C: pt(0, 1, 64)}
	expect(t, "P2.2 Normal at the limits", pt(-64*128, -64*128, 128))(shape.Normal(good))
	if e := shape.ValidatePanel(good); e != api.OK {
		t.Error("P2.2:", e)
	}
	expect(t, "P2.2 Normal", pt(0, 0, 4))(shape.Normal(api.Panel{A: pt(0, 0, 0), B: pt(2, 0, 0), C: pt(0, 2, 0)}))
	expect(t, "P2.2 Normal turned", pt(0, 0, -4))(shape.Normal(api.Panel{A: pt(0, 0, 0), B: pt(0, 2, 0), C: pt(2, 0, 0)}))
	expect(t, "P2.2 Normal elsewhere", pt(1, 1, 1))(shape.Normal(api.Panel{A: pt(1, 0, 0), B: pt(0, 1, 0), C: pt(0, 0, 1)}))
	for _, x := range []struct {
		p api.Panel
		e api.Errno
	}{
		{api.Panel{A: pt(65, 0, 0), B: pt(1, 0, 0), C: pt(0, 1, 0)}, api.ErrArg},
		{api.Panel{A: pt(0, 0, 0), B: pt(1, -65, 0), C: pt(0, 1, 0)}, api.ErrArg},
		{api.Panel{A: pt(0, 0, 0), B: pt(1, 0, 0), C: pt(0, 1, 65)}, api.ErrArg},
		{api.Panel{A: pt(0, 0, 0), B: pt(math.MinInt, 0, 0), C: pt(0, 1, math.MaxInt)}, api.ErrArg},
		{api.Panel{A: pt(65, 0, 0), B: pt(65, 0, 0), C: pt(65, 0, 0)}, api.ErrArg}, // flat, too
		{api.Panel{}, api.ErrFlat},
		{api.Panel{A: pt(1, 2, 3), B: pt(1, 2, 3), C: pt(3, 2, 1)}, api.ErrFlat},
		{api.Panel{A: pt(-64, -64, -64), B: pt(64, 64, 64), C: pt(1, 1, 1)}, api.ErrFlat},
	} {
		if e := shape.ValidatePanel(x.p); e != x.e {
			t.Error("P2.2:", x.p, e, "want", x.e)
		}
		refused[api.Point](t, "P2.2 Normal", x.e)(shape.Normal(x.p))
	}
}
