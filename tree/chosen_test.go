package tree_test

import (
	"fmt"
	"math"
	"slices"
	"testing"

	"facet/api"
	"facet/field"
	"facet/tree"
)

// views are points from which panels are seen: in them, near, and far.
func views(l []api.Charged) []api.Point {
	x := []api.Point{pt(0, 0, 0), pt(3, -2, 5), pt(40, 30, -20), pt(256, -256, 256), pt(-256, 0, 0), pt(100, 100, 0)}
	for i := 0; i < len(l); i += 5 {
		c := l[i].Panel
		x = append(x, c.A, pt(c.B.X, c.B.Y, c.B.Z+2))
	}
	return x
}

// chosen is Chosen, with both lists in one result.
func chosen(l []api.Charged, t api.Tree, x api.Point, sep int) result[found] {
	nodes, panels, e := tree.Chosen(l, t, x, sep)
	return res(found{nodes, panels}, e)
}

func TestChosen(t *testing.T) { // P5.3
	far, near := 0, 0
	for _, l := range lists(random()) {
		for _, leaf := range []int{1, 3, 16} {
			built := referenceBuild(l, leaf)
			for _, x := range views(l) {
				for _, sep := range []int{1, 2, 5, 16} {
					var want found
					if len(l) > 0 {
						want = referenceChosen(built, 0, x, sep)
					}
					got := chosen(l, built, x, sep)
					expectAlike(t, fmt.Sprint("P5.3 Chosen of ", len(l), " leaf ", leaf, " from ", x, " sep ", sep), got, res(want, api.OK))
					checkPartition(t, built, got.v)
					far, near = far+len(got.v.nodes), near+len(got.v.panels)
				}
			}
		}
	}
	if far < 1000 || near < 1000 {
		t.Error("P5.3 too few of a kind", far, near)
	}
}

// checkPartition expects each panel in one node or among the panels (S4).
func checkPartition(t *testing.T, built api.Tree, c found) {
	t.Helper()
	all := slices.Clone(c.panels)
	for _, k := range c.nodes {
		all = append(all, built.Order[built.Nodes[k].From:built.Nodes[k].To]...)
	}
	slices.Sort(all)
	order := slices.Clone(built.Order)
	slices.Sort(order)
	expectAlike(t, "S4 Chosen", all, order)
}

func TestChosenBorders(t *testing.T) { // P5.3
	// The node has the center 0 0 0 and Radius2 9.
	l := []api.Charged{charged(tri(pt(-3, 0, 0), pt(3, 0, 0), pt(0, 1, 0)), 1)}
	built := must(tree.Build(l, 1))
	expect(t, "P5.3 the radius", built.Nodes[0].Radius2, 9)
	node, panel := found{nodes: []int{0}}, found{panels: []int{0}}
	for _, c := range []struct {
		x    api.Point
		sep  int
		want found
	}{
		{pt(0, 0, 3), 1, panel}, // on the ball: Radius2 is not below n
		{pt(1, 0, 3), 1, node},
		{pt(0, 0, 6), 2, node}, // 9 * 4 is 36
		{pt(1, 3, 5), 2, panel},
		{pt(0, 0, 9), 3, node},
		{pt(4, 0, 8), 3, panel},
		{pt(0, 0, 48), 16, node},
		{pt(0, 0, -47), 16, panel},
		{pt(0, 0, 0), 1, panel},
	} {
		expectAlike(t, fmt.Sprint("P5.3 Chosen from ", c.x, " sep ", c.sep), chosen(l, built, c.x, c.sep), res(c.want, api.OK))
	}
}

// outside are points of which a coordinate is out of range.
func outside() []api.Point {
	var l []api.Point
	for _, n := range []int{257, -257, math.MaxInt, math.MinInt} {
		l = append(l, pt(n, 0, 0), pt(0, n, 0), pt(0, 0, n))
	}
	return l
}

// wrongSeps are values of sep that are out of range.
func wrongSeps() []int { return []int{0, -1, 17, math.MaxInt, math.MinInt} }

func TestChosenRefuses(t *testing.T) { // P5.3
	for _, l := range [][]api.Charged{nil, row(4, 3)} {
		built := must(tree.Build(l, 1))
		for _, x := range outside() {
			for _, sep := range []int{1, 16, 17} {
				expectAlike(t, fmt.Sprint("P5.3 Chosen from ", x), chosen(l, built, x, sep), refused[found](api.ErrArg))
			}
		}
		for _, sep := range wrongSeps() {
			expectAlike(t, fmt.Sprint("P5.3 Chosen, sep ", sep), chosen(l, built, pt(0, 0, 0), sep), refused[found](api.ErrArg))
		}
	}
}

func TestPotential(t *testing.T) { // P5.4
	seen := map[api.Errno]int{}
	r := random()
	for _, l := range append(lists(r), some(r, 40, 1, 12), some(r, 60, 2, 30)) {
		for _, leaf := range []int{1, 4} {
			built := referenceBuild(l, leaf)
			for k, x := range append(views(l), pt(50, 0, 3), pt(70, -70, 70)) {
				sep, order, depth := 1+k%3, k%3, (k/2)%4
				got := res(tree.Potential(l, built, x, sep, order, depth))
				what := fmt.Sprint("P5.4 Potential of ", len(l), " leaf ", leaf, " from ", x, sep, order, depth)
				expect(t, what, got, referencePotential(l, built, x, sep, order, depth))
				if direct, e := field.Potential(l, x, depth); got.e == api.OK && e == api.OK {
					meets(t, "S1 "+what, got.v, direct)
				}
				seen[got.e]++
			}
		}
	}
	if seen[api.OK] < 200 || seen[api.ErrNear] < 50 {
		t.Error("P5.4 too few of a kind", seen)
	}
}

// wide has n panels with the corners 64 64 64, -64 -64 low and 64 -64 64, or with
// all z turned.
func wide(n, low, turn, charge int) []api.Charged {
	var l []api.Charged
	for range n {
		l = append(l, charged(tri(pt(64, 64, 64*turn), pt(-64, -64, low*turn), pt(64, -64, 64*turn)), charge))
	}
	return l
}

func TestPotentialTooLarge(t *testing.T) { // P5.4
	// The center is 0 0 0, Radius2 is 12288, n is 12289: what is left out is worth a lot.
	x := pt(108, 25, 0)
	for n, want := range map[int]api.Errno{40: api.OK, 96: api.ErrLarge} {
		l := wide(n, -64, 1, 100)
		built := must(tree.Build(l, 16))
		got := res(tree.Potential(l, built, x, 1, 0, 0))
		expect(t, "P5.4 just outside of the ball", got, referencePotential(l, built, x, 1, 0, 0))
		expect(t, "P5.4 just outside of the ball", got.e, want)
	}
	// Each half of the panels is just as near, with the centers 0 0 1 and 0 0 -1; the
	// sum of the two far fields is too large, one of them is not.
	x = pt(95, 56, 0)
	for other, want := range map[int]api.Errno{0: api.OK, 60: api.ErrLarge} {
		l := append(wide(48, -62, 1, 60), wide(48, -62, -1, other)...)
		built := must(tree.Build(l, 16))
		expectAlike(t, "P5.4 two halves", chosen(l, built, x, 1).v.nodes, []int{1, built.Nodes[0].Right})
		got := res(tree.Potential(l, built, x, 1, 0, 0))
		expect(t, "P5.4 two halves", got, referencePotential(l, built, x, 1, 0, 0))
		expect(t, "P5.4 two halves", got.e, want)
	}
}

func TestPotentialBorders(t *testing.T) { // P5.4
	l := row(9, 3)
	built := must(tree.Build(l, 2))
	on, off := l[0].Panel.A, pt(100, 0, 0)
	expect(t, "P5.4 of no panels", res(tree.Potential(nil, api.Tree{}, on, 1, 0, 0)), res(sp(0, 0), api.OK))
	expect(t, "P5.4 on a panel", res(tree.Potential(l, built, on, 1, 2, 3)), refused[api.Span](api.ErrNear))
	// A panel without a charge counts, too.
	l[0].Charge = 0
	expect(t, "P5.4 on a panel without a charge", res(tree.Potential(l, built, on, 1, 2, 3)), refused[api.Span](api.ErrNear))
	for _, n := range []int{-1, 4, math.MaxInt, math.MinInt} {
		for _, x := range []api.Point{on, off} {
			expect(t, "P5.4 order", res(tree.Potential(l, built, x, 1, n, 0)), refused[api.Span](api.ErrArg))
			expect(t, "P5.4 depth", res(tree.Potential(l, built, x, 1, 0, n)), refused[api.Span](api.ErrArg))
			expect(t, "P5.4 of no panels", res(tree.Potential(nil, api.Tree{}, x, 1, 0, n)), refused[api.Span](api.ErrArg))
		}
	}
	expect(t, "P5.4 order 3", res(tree.Potential(l, built, off, 1, 3, 3)), refused[api.Span](api.ErrArg))
}

func TestPotentialNarrows(t *testing.T) { // P5.4: the order and the depth count
	l := some(random(), 20, 2, 10)
	built := must(tree.Build(l, 16))
	width := func(sep, order, depth int) int {
		s := must(tree.Potential(l, built, pt(60, 50, 40), sep, order, depth))
		return s.Hi - s.Lo
	}
	if !(width(2, 2, 0) < width(2, 1, 0) && width(2, 1, 0) < width(2, 0, 0)) {
		t.Error("P5.4 a higher order is not narrower")
	}
	// With sep 16 all panels are near.
	if width(16, 2, 3) >= width(16, 2, 0) {
		t.Error("P5.4 a greater depth is not narrower")
	}
}
