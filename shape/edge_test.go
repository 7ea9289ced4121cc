package shape_test

import (
	"slices"
	"testing"

	"facet/api"
	"facet/shape"
)

// shared reports whether two faces have an edge in common that ends at one of some points.
func shared(f, g [3]int, ends ...int) bool {
	var both []int
	for _, n := range f {
		if slices.Contains(g[:], n) {
			both = append(both, n)
		}
	}
	if len(both) < 2 {
		return false
	}
	return len(ends) == 0 || slices.Contains(both, ends[0])
}

// referenceGroups floods the faces from neighbor to neighbor.
func referenceGroups(faces [][3]int, ends ...int) int {
	done := make([]bool, len(faces))
	var flood func(i int)
	flood = func(i int) {
		done[i] = true
		for j, g := range faces {
			if !done[j] && shared(faces[i], g, ends...) {
				flood(j)
			}
		}
	}
	n := 0
	for i := range faces {
		if !done[i] {
			n++
			flood(i)
		}
	}
	return n
}

func referenceEdges(m api.Mesh) int {
	var l [][2]int
	for _, f := range m.Faces {
		for k := range 3 {
			p, q := f[k], f[(k+1)%3]
			if !slices.Contains(l, [2]int{p, q}) && !slices.Contains(l, [2]int{q, p}) {
				l = append(l, [2]int{p, q})
			}
		}
	}
	return len(l)
}

func referenceHandles(m api.Mesh) int {
	d := 0
	for n := range m.Points {
		var around [][3]int
		for _, f := range m.Faces {
			if slices.Contains(f[:], n) {
				around = append(around, f)
			}
		}
		d += referenceGroups(around, n) - 1
	}
	return (2*referenceGroups(m.Faces) - (len(m.Points) - referenceEdges(m) + len(m.Faces) + d)) / 2
}

func TestEdges(t *testing.T) { // P2.4
	for _, a := range zoo() {
		expect(t, "P2.4 Edges of "+a.name, referenceEdges(a.m))(shape.Edges(a.m))
		expect(t, "P2.4 Parts of "+a.name, a.parts)(shape.Parts(a.m))
		expect(t, "P2.4 Handles of "+a.name, a.handles)(shape.Handles(a.m))
		if p, h := referenceGroups(a.m.Faces), referenceHandles(a.m); p != a.parts || h != a.handles {
			t.Error("P2.4: the reference:", a.name, p, h)
		}
	}
	expect(t, "example 1", 18)(shape.Edges(box(1, 2, 3)))
	expect(t, "example 1", 1)(shape.Parts(box(1, 2, 3)))
	expect(t, "example 1", 0)(shape.Handles(box(1, 2, 3)))
	expect(t, "example 2", 12)(shape.Edges(octa(1)))
}

func TestFans(t *testing.T) { // P2.4
	// Two octahedra with two common points, but no common edge: two parts.
	m := join(octa(4), at(octa(2), pt(30, 0, 0)))
	as := map[int]int{6: 2, 7: 0}
	for i, f := range m.Faces {
		for k, n := range f {
			if to, ok := as[n]; ok {
				m.Faces[i][k] = to
			}
		}
	}
	m = upright(unusedDropped(m))
	if len(m.Points) != 10 || referenceValidate(m) != api.OK {
		t.Fatal("P2.4:", m, referenceValidate(m))
	}
	expect(t, "P2.4 Parts", 2)(shape.Parts(m))
	expect(t, "P2.4 Handles", 0)(shape.Handles(m))
	expect(t, "P2.4 Edges", 24)(shape.Edges(m))
	if n := len(selfTouching().Points); n != 4*8+4-1 {
		t.Error("P2.4: it touches itself at one point:", n)
	}
}

func TestBox(t *testing.T) { // P2.4
	for _, a := range zoo() {
		lo, hi, e := shape.Box(a.m)
		var x, y, z []int
		for _, p := range a.m.Points {
			x, y, z = append(x, p.X), append(y, p.Y), append(z, p.Z)
		}
		if e != api.OK || lo != pt(slices.Min(x), slices.Min(y), slices.Min(z)) || hi != pt(slices.Max(x), slices.Max(y), slices.Max(z)) {
			t.Error("P2.4 Box:", a.name, lo, hi, e)
		}
	}
}
