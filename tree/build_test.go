package tree_test

import (
	"fmt"
	"math"
	"slices"
	"testing"

	"facet/api"
	"facet/tree"
)

func TestBuild(t *testing.T) { // P5.1
	for _, l := range lists(random()) {
		for leaf := 1; leaf <= api.MaxLeaf; leaf++ {
			kept := slices.Clone(l)
			what := fmt.Sprint("P5.1 Build of ", len(l), " panels, leaf ", leaf)
			got := res(tree.Build(l, leaf))
			expectAlike(t, what, got, res(referenceBuild(l, leaf), api.OK))
			expectAlike(t, "R5 "+what, l, kept)
		}
	}
}

func TestBuildMany(t *testing.T) { // P5.1
	r := random()
	for range 1500 {
		l, leaf := some(r, r.IntN(24), 1+r.IntN(3), r.IntN(5)), 1+r.IntN(4)
		got := res(tree.Build(l, leaf))
		expectAlike(t, fmt.Sprint("P5.1 Build of ", l, " leaf ", leaf), got, res(referenceBuild(l, leaf), api.OK))
	}
}

func TestBuildExamples(t *testing.T) { // P5.1, P5.2, example 1
	got := must(tree.Build(row(4, 3), 1))
	leaf := func(from int) api.Node {
		return api.Node{From: from, To: from + 1, Left: -1, Right: -1, Center: pt(3*from, 0, 0), Radius2: 1}
	}
	want := api.Tree{Order: []int{0, 1, 2, 3}, Nodes: []api.Node{
		{From: 0, To: 4, Left: 1, Right: 4, Center: pt(5, 0, 0), Radius2: 26},
		{From: 0, To: 2, Left: 2, Right: 3, Center: pt(2, 0, 0), Radius2: 5}, leaf(0), leaf(1),
		{From: 2, To: 4, Left: 5, Right: 6, Center: pt(8, 0, 0), Radius2: 5}, leaf(2), leaf(3),
	}}
	expectAlike(t, "P5.1 example 1", got, want)
	expect(t, "P5.2 example 1, Height", tree.Height(got), 3)
	expect(t, "P5.2 example 1, Leaves", tree.Leaves(got), 4)

	// Three panels: the left part has two of them.
	expectAlike(t, "P5.1 the first half", must(tree.Build(row(3, 3), 1)).Nodes[1].To, 2)
	// A leaf keeps the order in which its panels come to it.
	back := []api.Charged{at(9, 0, 0), at(6, 0, 0), at(3, 0, 0), at(0, 0, 0), at(0, 0, 0)}
	expectAlike(t, "P5.1 unsorted", must(tree.Build(back, 5)).Order, []int{0, 1, 2, 3, 4})
	expectAlike(t, "P5.1 sorted once", must(tree.Build(back, 3)).Order, []int{3, 4, 2, 1, 0})
	// The centers are rounded down below 0, too: -3 and -2 have the middle -2.5.
	low := must(tree.Build([]api.Charged{at(-3, -3, -3)}, 1)).Nodes[0]
	expect(t, "P5.1 center below 0", low.Center, pt(-3, -3, -3))
	// Of equally wide axes the first one counts: y, for these two.
	two := []api.Charged{at(0, 5, 0), at(0, 0, 5)}
	expectAlike(t, "P5.1 the first axis", must(tree.Build(two, 1)).Order, []int{1, 0})
	// The key counts, not the box: along x they are wide, along z they differ.
	long := func(z int) api.Charged { return charged(tri(pt(-60, 0, z), pt(60, 0, z), pt(0, 1, z)), 1) }
	expectAlike(t, "P5.1 the key", must(tree.Build([]api.Charged{long(1), long(0)}, 1)).Order, []int{1, 0})
}

func TestPartition(t *testing.T) { // S4: each panel is in exactly one leaf
	for _, l := range lists(random()) {
		for leaf := 1; leaf <= api.MaxLeaf; leaf += 3 {
			built := must(tree.Build(l, leaf))
			var panels []int
			for _, n := range built.Nodes {
				if n.Left < 0 {
					panels = append(panels, built.Order[n.From:n.To]...)
				}
			}
			slices.Sort(panels)
			var all []int
			for i := range l {
				all = append(all, i)
			}
			expectAlike(t, "S4 the panels of the leaves", panels, all)
		}
	}
}

// wrongLists are charged panels that are not valid, with their errors.
func wrongLists() map[api.Errno][][]api.Charged {
	flat, far := charged(api.Panel{}, 1), charged(tri(pt(0, 0, 0), pt(65, 0, 0), pt(0, 1, 0)), 1)
	much := charged(at(0, 0, 0).Panel, 101)
	return map[api.Errno][][]api.Charged{
		api.ErrLarge: {row(97, 0), append(row(96, 0), flat)},
		api.ErrFlat:  {{flat}, {at(0, 0, 0), flat, far}},
		api.ErrArg:   {{far}, {much}, {at(0, 0, 0), much, flat}},
	}
}

func TestBuildRefuses(t *testing.T) { // P5.1, R2
	for _, leaf := range []int{0, -1, 17, math.MaxInt, math.MinInt} {
		for _, l := range [][]api.Charged{nil, row(1, 1), row(17, 1)} {
			expectAlike(t, fmt.Sprint("P5.1 Build, leaf ", leaf), res(tree.Build(l, leaf)), refused[api.Tree](api.ErrArg))
		}
	}
	for e, wrong := range wrongLists() {
		for _, l := range wrong {
			for _, leaf := range []int{1, 16, 0, 17} {
				expectAlike(t, fmt.Sprint("P5.1 Build of ", l), res(tree.Build(l, leaf)), refused[api.Tree](e))
			}
		}
	}
}

func TestCheck(t *testing.T) { // P5.2
	for _, l := range lists(random()) {
		for leaf := 1; leaf <= api.MaxLeaf; leaf++ {
			built := referenceBuild(l, leaf)
			expect(t, fmt.Sprint("P5.2 Check of ", len(l), " panels, leaf ", leaf), tree.Check(l, built), api.OK)
		}
	}
	expect(t, "P5.2 Check, empty slices", tree.Check([]api.Charged{}, api.Tree{Order: []int{}, Nodes: []api.Node{}}), api.OK)
	// With 17 panels a leaf may be too large, with 16 all may be in one.
	expect(t, "P5.2 Check, leaf 17", tree.Check(row(17, 1), referenceBuild(row(17, 1), 17)), api.ErrArg)
	expect(t, "P5.2 Check, leaf 16", tree.Check(row(16, 1), referenceBuild(row(16, 1), 16)), api.OK)
	// The charges do not count.
	l := some(random(), 9, 2, 9)
	built := must(tree.Build(l, 2))
	l[3].Charge++
	expect(t, "P5.2 Check, another charge", tree.Check(l, built), api.OK)
	// All leaves but one are as they are for leaf 2, one is as for leaf 1.
	mixed := api.Tree{Order: []int{0, 1, 2, 3}, Nodes: slices.Concat(built.Nodes[:0], referenceBuild(row(4, 3), 1).Nodes[:4], referenceBuild(row(4, 3), 2).Nodes[2:])}
	mixed.Nodes[4].Left, mixed.Nodes[4].Right = -1, -1
	expect(t, "P5.2 Check, mixed leaves", tree.Check(row(4, 3), mixed), api.ErrArg)
}

// cloned is a tree in new memory.
func cloned(t api.Tree) api.Tree {
	return api.Tree{Order: slices.Clone(t.Order), Nodes: slices.Clone(t.Nodes)}
}

// spoilt are trees that differ from one in one number, or in a node or a panel more
// or less.
func spoilt(t api.Tree) []api.Tree {
	var l []api.Tree
	for _, by := range []int{1, -1, 2, math.MaxInt, math.MinInt} {
		for k := range t.Nodes {
			for f := range 8 {
				c := cloned(t)
				n := &c.Nodes[k]
				*[]*int{&n.From, &n.To, &n.Left, &n.Right, &n.Center.X, &n.Center.Y, &n.Center.Z, &n.Radius2}[f] += by
				l = append(l, c)
			}
		}
		for i := range t.Order {
			c := cloned(t)
			c.Order[i] += by
			l = append(l, c)
		}
	}
	for i := range t.Order {
		c := cloned(t)
		c.Order[0], c.Order[i] = c.Order[i], c.Order[0]
		if i > 0 {
			l = append(l, c)
		}
	}
	longer, more := cloned(t), cloned(t)
	longer.Order = append(longer.Order, len(t.Order))
	more.Nodes = append(more.Nodes, api.Node{Left: -1, Right: -1})
	l = append(l, longer, more, api.Tree{Order: t.Order}, api.Tree{Nodes: t.Nodes})
	if len(t.Nodes) > 0 {
		shorter, less := cloned(t), cloned(t)
		shorter.Order, less.Nodes = shorter.Order[1:], less.Nodes[:len(less.Nodes)-1]
		l = append(l, shorter, less, api.Tree{})
	}
	return slices.DeleteFunc(l, func(c api.Tree) bool { return fmt.Sprint(c) == fmt.Sprint(t) })
}

func TestCheckRefuses(t *testing.T) { // P5.2
	r := random()
	for _, l := range [][]api.Charged{nil, row(1, 1), row(2, 50), row(5, 3), some(r, 7, 2, 5), some(r, 20, 1, 30)} {
		for _, leaf := range []int{1, 2, 5, 16} {
			for _, wrong := range spoilt(referenceBuild(l, leaf)) {
				expect(t, fmt.Sprint("P5.2 Check ", wrong), tree.Check(l, wrong), api.ErrArg)
			}
		}
	}
	for e, wrong := range wrongLists() {
		for _, l := range wrong {
			for _, built := range []api.Tree{{}, referenceBuild(row(2, 3), 1), referenceBuild(row(17, 1), 17)} {
				expect(t, "P5.2 Check, the panels first", tree.Check(l, built), e)
			}
		}
	}
	// The tree of other panels.
	expect(t, "P5.2 Check, other panels", tree.Check(row(4, 3), referenceBuild(row(4, 4), 1)), api.ErrArg)
	expect(t, "P5.2 Check, more panels", tree.Check(row(4, 3), referenceBuild(row(5, 3), 1)), api.ErrArg)
	// A leaf may seem to be small where its size has no int.
	wrap := referenceBuild(row(1, 1), 1)
	wrap.Nodes[0].From, wrap.Nodes[0].To = math.MaxInt, math.MinInt
	expect(t, "P5.2 Check, a size beyond an int", tree.Check(row(1, 1), wrap), api.ErrArg)
}

func TestLeavesAndHeight(t *testing.T) { // P5.2
	for _, l := range lists(random()) {
		for leaf := 1; leaf <= api.MaxLeaf; leaf++ {
			built := referenceBuild(l, leaf)
			leaves, height := 0, 0
			for _, n := range built.Nodes {
				if n.Left < 0 {
					leaves++
				}
			}
			if len(l) > 0 {
				height = referenceHeight(built, 0)
			}
			expect(t, "P5.2 Leaves", tree.Leaves(built), leaves)
			expect(t, "P5.2 Height", tree.Height(built), height)
		}
	}
}

func TestOddTreesEnd(t *testing.T) { // P5.2: Leaves and Height end and do not panic
	chain := make([]api.Node, 5000)
	for k := range chain {
		chain[k] = api.Node{Left: k + 1, Right: k + 1}
	}
	odd := [][]api.Node{chain, {{}}, {{Left: 0, Right: 0}}, {{Left: 1, Right: -1}}, {{Left: 1, Right: 1}, {Left: 0, Right: 0}}}
	for _, n := range []int{-2, 1, 7, math.MaxInt, math.MinInt} {
		odd = append(odd, []api.Node{{From: n, To: -n, Left: n, Right: n}}, []api.Node{{Left: -1, Right: n}}, []api.Node{{Left: n, Right: -1}, {}})
	}
	for _, nodes := range odd {
		tree.Leaves(api.Tree{Nodes: nodes})
		tree.Height(api.Tree{Nodes: nodes})
		tree.Leaves(api.Tree{Nodes: nodes, Order: []int{-1, 9}})
		tree.Height(api.Tree{Nodes: nodes, Order: []int{-1, 9}})
	}
}
