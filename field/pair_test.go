package field_test

import (
	"fmt"
	"math/rand/v2"
	"testing"

	"facet/api"
	"facet/field"
	"facet/shape"
	"facet/span"
)

// exact has a normal whose length is 2*3217, so that the root of a rim is whole.
var exact = tri(pt(-30, -40, 0), pt(34, -57, 0), pt(-28, 60, 0))

func TestRim(t *testing.T) { // P3.5
	r := random()
	for _, p := range append(somePanels(r, 30), exact) {
		for depth := range api.MaxDepth + 1 {
			k, e := field.Rim(p, depth)
			what := fmt.Sprint("P3.5 Rim of ", p, " at ", depth)
			expect(t, what, k, referenceRim(p, depth))
			expect(t, what, e, api.OK)
			if k < 1 || !reaches(k, p, depth) || reaches(k-1, p, depth) {
				t.Error(what, k, "is not the smallest")
			}
		}
	}
}

func TestRimExamples(t *testing.T) { // P3.5
	for _, c := range []struct {
		p    api.Panel
		want [4]int
	}{
		// One*One*3217 / 512 is 6908454895616, between the squares of 2628393 and 2628394.
		{small, [4]int{2628394, 5256788, 10513576, 21027152}},
		// The normal is 0 0 1: the greatest rims that there are.
		{tri(pt(0, 0, 0), pt(1, 0, 0), pt(0, 1, 0)), [4]int{5256788, 10513576, 21027152, 42054304}},
		// The length of the normal is the root of 3, which counts as 1.
		{tri(pt(1, 0, 0), pt(0, 1, 0), pt(0, 0, 1)), [4]int{5256788, 10513576, 21027152, 42054304}},
		// One*One*3217 / (128 * 6434) is 2^32: reached, and just so.
		{exact, [4]int{1 << 16, 1 << 17, 1 << 18, 1 << 19}},
		// The length counts as 23235: at the depths 1 and 2 the quotient is a bit above a square.
		{tri(pt(64, -44, -64), pt(-64, 64, -19), pt(64, 64, 64)), [4]int{34487, 68974, 137947, 275893}},
		// The rim of a turned panel is the same.
		{tri(exact.B, exact.A, exact.C), [4]int{1 << 16, 1 << 17, 1 << 18, 1 << 19}},
	} {
		for depth, want := range c.want {
			k, e := field.Rim(c.p, depth)
			expect(t, fmt.Sprint("P3.5 Rim of ", c.p, " at ", depth), k, want)
			expect(t, "P3.5 Rim", e, api.OK)
		}
	}
}

func TestRimIsAbove(t *testing.T) { // the sentence about the rim: the mean of 1/r is nowhere above
	for _, p := range somePanels(random(), 10) {
		for depth := range api.MaxDepth + 1 {
			k, scale := must(field.Rim(p, depth)), float64(int(1)<<depth)
			part := toTriangle(must(field.Parts(p, depth))[0])
			for _, x := range append(part.inside(5), part[0], part[1]) {
				if mean := scale * part.mean(x) * one; mean > float64(k) {
					t.Error("P3.5 Rim:", p, depth, k, "is not above", mean)
				}
			}
		}
	}
}

// pairs are panels and what they see: themselves, what they touch, and what is near or far.
func pairs(r *rand.Rand, each int) [][2]api.Panel {
	var l [][2]api.Panel
	for _, p := range somePanels(r, each) {
		l = append(l, [2]api.Panel{p, p}, [2]api.Panel{p, tri(p.B, p.C, p.A)}, [2]api.Panel{p, tri(p.A, p.C, p.B)})
		for _, size := range []int{1, 4, 64} {
			q := somePanel(r, size)
			l = append(l, [2]api.Panel{p, q}, [2]api.Panel{q, p})
			q.A = p.C
			if shape.ValidatePanel(q) == api.OK {
				l = append(l, [2]api.Panel{p, q})
			}
		}
	}
	return l
}

func TestBetween(t *testing.T) { // P3.5
	kinds := map[string]int{}
	for _, c := range pairs(random(), 6) {
		p, q := c[0], c[1]
		for depth := range api.MaxPair + 1 {
			what := fmt.Sprint("P3.5 Between ", p, " and ", q, " at ", depth)
			got := res(field.Between(p, q, depth))
			expect(t, what, got, res(referenceBetween(p, q, depth), api.OK))
			if !span.Valid(got.s) {
				t.Error(what, "is no span:", got)
			}
			for _, x := range append(toTriangle(q).inside(2), toVec(q.A), toVec(q.B), toVec(q.C)) {
				enclosesTruth(t, what, got.s, toTriangle(p).mean(x), 1e-9)
			}
			count(kinds, p, q, depth)
		}
	}
	for _, kind := range []string{"touches", "rim is smaller", "rim is greater"} {
		if kinds[kind] < 50 {
			t.Error("P3.5: too few parts of a kind:", kind, kinds)
		}
	}
}

// count counts the kinds of parts that make Hi.
func count(kinds map[string]int, p, q api.Panel, depth int) {
	rim := referenceRim(p, depth)
	for _, part := range referenceParts(p, depth) {
		n := referenceNear(listed(part), listed(enlarged(q, 1<<depth)))
		if n == 0 {
			kinds["touches"]++
			continue
		}
		if _, hi := referencePower(n, 1<<depth, 1); hi > rim {
			kinds["rim is smaller"]++
		} else {
			kinds["rim is greater"]++
		}
	}
}

func TestBetweenExamples(t *testing.T) { // P3.5
	up := func(p api.Panel, z int) api.Panel {
		return tri(pt(p.A.X, p.A.Y, p.A.Z+z), pt(p.B.X, p.B.Y, p.B.Z+z), pt(p.C.X, p.C.Y, p.C.Z+z))
	}
	// The far distance is 64 + 8, the near one 64.
	expect(t, "P3.5 above", res(field.Between(small, up(small, 8), 0)), res(sp(123575, 131072), api.OK))
	// The panel itself: 8 is the square of the longest side, and the rim is all that bounds it.
	expect(t, "P3.5 itself", res(field.Between(small, small, 0)), res(sp(370727, 2628394), api.OK))
	// The rim of a large panel is below One: it counts also at the distance 1 ..
	wide := tri(pt(0, 0, 0), pt(60, 0, 0), pt(0, 60, 0))
	rim := must(field.Rim(wide, 0))
	lo, _ := referencePower(7201, 1, 1)
	expect(t, "P3.5 the rim is smaller", res(field.Between(wide, up(wide, 1), 0)), res(sp(lo, rim), api.OK))
	// .. and that of a small one does not: it is above One.
	lo, _ = referencePower(3605, 1, 1)
	expect(t, "P3.5 the rim is greater", res(field.Between(small, up(wide, 1), 0)), res(sp(lo, one), api.OK))
}

func TestMutual(t *testing.T) { // P3.6
	for _, c := range pairs(random(), 3) {
		p, q := c[0], c[1]
		for depth := range api.MaxPair + 1 {
			what := fmt.Sprint("P3.6 Mutual of ", p, " and ", q, " at ", depth)
			got := res(field.Mutual(p, q, depth))
			expect(t, what, got, res(referenceMutual(p, q, depth), api.OK))
			enclosesTruth(t, what, got.s, toTriangle(p).mutual(toTriangle(q)), 0.01)

			// The consequence, S1.
			back, between := must(field.Mutual(q, p, depth)), must(field.Between(p, q, depth))
			for _, pair := range [][2]api.Span{{got.s, back}, {got.s, between}, {back, between}} {
				if order, e := span.Compare(pair[0], pair[1]); order != 0 || e != api.OK {
					t.Error(what, "do not meet:", pair)
				}
			}
		}
	}
}

func TestMutualExamples(t *testing.T) { // P3.6
	// At the depth 0 it is Between.
	for _, c := range pairs(random(), 2) {
		expect(t, "P3.6 at 0", res(field.Mutual(c[0], c[1], 0)), res(field.Between(c[0], c[1], 0)))
	}
	// The rim is that of the first panel.
	tiny, wide := tri(pt(0, 0, 0), pt(1, 0, 0), pt(0, 1, 0)), tri(pt(0, 0, 0), pt(60, 0, 0), pt(0, 60, 0))
	expect(t, "P3.6 the rim of p", must(field.Mutual(tiny, wide, 0)).Hi, must(field.Rim(tiny, 0)))
	expect(t, "P3.6 the rim of p", must(field.Mutual(wide, tiny, 0)).Hi, must(field.Rim(wide, 0)))
}
