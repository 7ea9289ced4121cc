package field_test

import (
	"fmt"
	"slices"
	"testing"

	"facet/api"
	"facet/field"
	"facet/shape"
	"facet/span"
)

// small is the panel of the chapter's examples, large one whose parts have
// integer corners in its own grid.
var (
	small = tri(pt(0, 0, 0), pt(2, 0, 0), pt(0, 2, 0))
	large = tri(pt(0, 0, 0), pt(8, 0, 0), pt(0, 8, 0))
)

func TestParts(t *testing.T) { // P3.1
	for depth, want := range [][]api.Panel{
		{small},
		{
			tri(pt(0, 0, 0), pt(2, 0, 0), pt(0, 2, 0)), tri(pt(2, 0, 0), pt(4, 0, 0), pt(2, 2, 0)),
			tri(pt(0, 2, 0), pt(2, 2, 0), pt(0, 4, 0)), tri(pt(2, 0, 0), pt(2, 2, 0), pt(0, 2, 0)),
		},
	} {
		if l, e := field.Parts(small, depth); !slices.Equal(l, want) || e != api.OK {
			t.Error("P3.1 Parts:", depth, l, e)
		}
	}
	for _, p := range somePanels(random(), 10) {
		for depth := range api.MaxDepth + 1 {
			l, e := field.Parts(p, depth)
			if !slices.Equal(l, referenceParts(p, depth)) || len(l) != 1<<(2*depth) || e != api.OK {
				t.Error("P3.1 Parts:", p, depth, l, e)
			}
			// The parts have the normal of the panel, so none is turned over.
			for _, part := range l {
				if normal := toTriangle(part).normal(); normal != toTriangle(p).normal() {
					t.Error("P3.1 Parts: turned:", p, depth, part)
				}
			}
		}
	}
}

func TestPartsAreNew(t *testing.T) { // R5, R11
	for depth := range api.MaxDepth + 1 {
		first, _ := field.Parts(small, depth)
		clear(first[:cap(first)])
		if second, _ := field.Parts(small, depth); !slices.Equal(second, referenceParts(small, depth)) {
			t.Error("R5 Parts:", depth, second)
		}
	}
}

func TestMeanExamples(t *testing.T) { // P3.1, P3.2
	expect(t, "P3.1 example 1", res(field.Mean(small, pt(1, 1, 8), 0)), res(sp(129070, 131072), api.OK))
	expect(t, "P3.2 example 1, cubed", res(field.MeanCube(small, pt(1, 1, 8), 0)), res(sp(1955, 2048), api.OK))
	// d is 32 (the normal 0 0 4 times 8, turned): half of it times the cube.
	expect(t, "P3.2 SolidAngle", res(field.SolidAngle(small, pt(1, 1, 8), 0)), res(sp(-16*2048, -16*1955), api.OK))
	expect(t, "P3.2 SolidAngle, below", res(field.SolidAngle(small, pt(1, 1, -8), 0)), res(sp(16*1955, 16*2048), api.OK))
	turned := tri(small.B, small.A, small.C)
	expect(t, "P3.2 SolidAngle, turned", res(field.SolidAngle(turned, pt(1, 1, 8), 0)), res(sp(16*1955, 16*2048), api.OK))
	expect(t, "P3.2 SolidAngle in the plane", res(field.SolidAngle(small, pt(5, 5, 0), 0)), res(sp(0, 0), api.OK))
	for depth := range api.MaxDepth + 1 {
		for _, x := range []api.Point{small.A, small.B, small.C, pt(1, 0, 0), pt(1, 1, 0)} {
			expect(t, "P3.1 example 3", res(field.Mean(small, x, depth)), refused(api.ErrNear))
			expect(t, "P3.2 example 3", res(field.MeanCube(small, x, depth)), refused(api.ErrNear))
			expect(t, "P3.2 example 3", res(field.SolidAngle(small, x, depth)), refused(api.ErrNear))
		}
	}
	// In the box of the panel, beside the panel: near until the parts are small.
	for depth, want := range []api.Errno{api.ErrNear, api.ErrNear, api.OK, api.OK} {
		_, e := field.Mean(large, pt(7, 4, 0), depth)
		expect(t, fmt.Sprint("P3.1 in the box, depth ", depth), e, want)
	}
	// The distance to the box counts, not that to the panel.
	expect(t, "P3.1 near the box", res(field.Mean(large, pt(8, 9, 0), 0)), res(sp(87079, one), api.OK))
}

func TestOneOf64PartsIsNear(t *testing.T) { // P3.1: the first, the last and any other part
	for x := range 9 {
		for y := range 9 - x {
			expect(t, "P3.1 on the panel", res(field.Mean(large, pt(x, y, 0), 3)), refused(api.ErrNear))
			expect(t, "P3.2 on the panel", res(field.MeanCube(large, pt(x, y, 0), 3)), refused(api.ErrNear))
		}
	}
}

// lookAt compares the three functions with the references, and returns their errors.
func lookAt(t *testing.T, p api.Panel, x api.Point, depth int) [3]api.Errno {
	t.Helper()
	what := fmt.Sprint(" of ", p, " from ", x, " at ", depth)
	mean, cube, angle := res(field.Mean(p, x, depth)), res(field.MeanCube(p, x, depth)), res(field.SolidAngle(p, x, depth))
	expect(t, "P3.1 Mean"+what, mean, res(referenceMean(p, x, depth, 1)))
	expect(t, "P3.2 MeanCube"+what, cube, res(referenceMean(p, x, depth, 3)))
	expect(t, "P3.2 SolidAngle"+what, angle, res(referenceSolidAngle(p, x, depth)))
	q, at := toTriangle(p), toVec(x)
	if mean.e == api.OK {
		enclosesTruth(t, "P3.1 Mean"+what, mean.s, q.mean(at), 1e-9)
	}
	if cube.e == api.OK && solid(p, x) != 0 {
		enclosesTruth(t, "P3.2 MeanCube"+what, cube.s, q.meanCube(at), 1e-9)
	}
	if angle.e == api.OK {
		enclosesTruth(t, "P3.2 SolidAngle"+what, angle.s, q.solidAngle(at), 1e-9)
	}
	return [3]api.Errno{mean.e, cube.e, angle.e}
}

func TestMean(t *testing.T) { // P3.1, P3.2
	r := random()
	seen := map[[3]api.Errno]int{}
	for _, p := range somePanels(r, 12) {
		for _, x := range pointsFor(r, p) {
			for depth := range api.MaxDepth + 1 {
				seen[lookAt(t, p, x, depth)]++
			}
		}
	}
	for _, e := range [][3]api.Errno{{}, {api.ErrNear, api.ErrNear, api.ErrNear}, {api.OK, api.OK, api.ErrLarge}} {
		if seen[e] == 0 {
			t.Error("P3.1, P3.2: no point with the errors", e, seen)
		}
	}
	if len(seen) != 3 {
		t.Error("P3.1, P3.2: errors that can't be:", seen)
	}
}

func TestSolidAngleLarge(t *testing.T) { // P3.2: at and above MaxFix
	// Seen from 1 beside the box, the Hi of MeanCube is One.
	x := pt(65, 0, 0)
	for _, c := range []struct {
		p api.Panel
		d int
	}{
		{tri(pt(-64, -64, -64), pt(64, 62, 64), pt(64, 64, -64)), 1 << 20},
		{tri(pt(-64, -64, 64), pt(64, 64, 63), pt(64, 63, -64)), 1<<20 + 1},
	} {
		turned := tri(c.p.B, c.p.A, c.p.C)
		if solid(c.p, x) != c.d || solid(turned, x) != -c.d {
			t.Fatal("P3.2: not the panel of the test:", c)
		}
		got, back := res(field.SolidAngle(c.p, x, 0)), res(field.SolidAngle(turned, x, 0))
		if c.d > 1<<20 {
			expect(t, "P3.2 large", got, refused(api.ErrLarge))
			expect(t, "P3.2 large, turned", back, refused(api.ErrLarge))
			continue
		}
		cube := must(field.MeanCube(c.p, x, 0))
		expect(t, "P3.2 as large as may be", got, res(sp(cube.Lo*c.d/2, api.MaxFix/2), api.OK))
		expect(t, "P3.2 as large as may be, turned", back, res(sp(-api.MaxFix/2, -cube.Lo*c.d/2), api.OK))
	}
	p := tri(pt(-64, -64, 64), pt(64, 64, 63), pt(64, 63, -64))
	expect(t, "P3.2 finer", res(field.SolidAngle(p, x, 3)), res(referenceSolidAngle(p, x, 3)))
	expect(t, "P3.2 near before large", res(field.SolidAngle(p, pt(64, 0, 0), 0)), refused(api.ErrNear))
}

func TestFiner(t *testing.T) { // the consequence of P3.1, S2
	r := random()
	for _, p := range somePanels(r, 20) {
		for _, x := range pointsFor(r, p) {
			for name, f := range map[string]func(api.Panel, api.Point, int) (api.Span, api.Errno){
				"Mean": field.Mean, "MeanCube": field.MeanCube, "SolidAngle": field.SolidAngle,
			} {
				for depth := range api.MaxDepth {
					wide, e := f(p, x, depth)
					if e != api.OK {
						continue
					}
					narrow, e := f(p, x, depth+1)
					if in, _ := span.Within(narrow, wide); !in || e != api.OK {
						t.Error("S2:", name, p, x, depth, wide, narrow, e)
					}
				}
			}
		}
	}
}

func TestFarAway(t *testing.T) { // DOC.md, example 3
	for _, p := range somePanels(random(), 5) {
		s, e := field.Mean(p, pt(256, 255, 254), 0)
		lo, _ := span.Inverse(referenceFar(listed(p), []api.Point{pt(256, 255, 254)}), 1)
		hi, _ := span.Inverse(referenceNear(listed(p), []api.Point{pt(256, 255, 254)}), 1)
		expect(t, "DOC 3", res(s, e), res(sp(lo.Lo, hi.Hi), api.OK))
	}
}

func TestLeast(t *testing.T) { // P3.7
	r := random()
	found := map[int]int{}
	for _, p := range somePanels(r, 6) {
		for _, x := range pointsFor(r, p) {
			widths := []int{0, 1, api.MaxFix, r.IntN(1000), r.IntN(100000), r.IntN(10 * one)}
			var means []result
			for depth := range api.MaxDepth + 1 {
				m := res(referenceMean(p, x, depth, 1))
				means = append(means, m)
				if m.e == api.OK { // just wide enough, and just not
					widths = append(widths, m.s.Hi-m.s.Lo, max(0, m.s.Hi-m.s.Lo-1))
				}
			}
			for _, width := range widths {
				want := slices.IndexFunc(means, func(m result) bool { return m.e == api.OK && m.s.Hi-m.s.Lo <= width })
				found[want]++
				var s api.Span
				if want >= 0 {
					s = means[want].s
				}
				lookForLeast(t, p, x, width, want, s)
			}
		}
	}
	for depth := -1; depth <= api.MaxDepth; depth++ {
		if found[depth] < 10 {
			t.Error("P3.7: too few answers with the depth", depth, found)
		}
	}
}

// lookForLeast expects a depth and a span, or that there is none if depth is -1.
func lookForLeast(t *testing.T, p api.Panel, x api.Point, width, depth int, want api.Span) {
	t.Helper()
	d, s, ok, e := field.Least(p, x, width)
	if d != max(0, depth) || s != want || ok != (depth >= 0) || e != api.OK {
		t.Error("P3.7 Least:", p, x, width, d, s, ok, e, "want", depth, want)
	}
}

func TestLeastExamples(t *testing.T) { // P3.7
	x := pt(1, 1, 8)
	for _, c := range []struct{ width, depth int }{{api.MaxFix, 0}, {2002, 0}, {2001, 1}} {
		want, _ := referenceMean(small, x, c.depth, 1)
		lookForLeast(t, small, x, c.width, c.depth, want)
	}
	lookForLeast(t, small, x, 0, -1, api.Span{})
	for _, on := range []api.Point{small.A, pt(1, 1, 0)} { // near at each depth
		lookForLeast(t, small, on, api.MaxFix, -1, api.Span{})
	}
	larger := enlarged(large, 2)
	for depth, beside := range []api.Point{pt(17, 17, 0), pt(15, 15, 0), pt(14, 8, 0), pt(11, 7, 0)} { // near at the depths before
		want, e := referenceMean(larger, beside, depth, 1)
		expect(t, "P3.7 not near", e, api.OK)
		lookForLeast(t, larger, beside, api.MaxFix, depth, want)
	}
	refusals := []struct {
		p     api.Panel
		x     api.Point
		width int
		e     api.Errno
	}{
		{small, x, -1, api.ErrArg},
		{small, x, api.MaxFix + 1, api.ErrArg},
		{small, pt(257, 0, 0), 0, api.ErrArg},
		{small, small.A, -1, api.ErrArg}, // near, too
		{api.Panel{}, x, -1, api.ErrFlat},
		{api.Panel{}, pt(0, 257, 0), 0, api.ErrFlat},
		{tri(pt(65, 0, 0), pt(65, 0, 0), pt(0, 0, 0)), x, -1, api.ErrArg},
	}
	for _, c := range refusals {
		if depth, s, ok, e := field.Least(c.p, c.x, c.width); depth != 0 || s != (api.Span{}) || ok || e != c.e {
			t.Error("P3.7 Least:", c, depth, s, ok, e)
		}
	}
}

func TestPointsAtTheLimits(t *testing.T) { // P3.1
	for _, x := range []api.Point{pt(256, 0, 0), pt(-256, 0, 0), pt(0, 256, 0), pt(0, -256, 0), pt(0, 0, 256), pt(256, 256, -256)} {
		for _, p := range []api.Panel{small, tri(pt(64, -64, 64), pt(-64, -64, 64), pt(64, 64, -64))} {
			if e := shape.ValidatePanel(p); e != api.OK {
				t.Fatal(e)
			}
			for depth := range api.MaxDepth + 1 {
				lookAt(t, p, x, depth)
			}
		}
	}
}
