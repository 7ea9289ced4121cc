package tree_test

import (
	"fmt"
	"math"
	"slices"
	"testing"

	"facet/api"
	"facet/field"
	"facet/tree"
)

// referenceDense is P5.7 for panels and a depth that are valid.
func referenceDense(l []api.Charged, depth int) [][]api.Span {
	var rows [][]api.Span
	for i := range l {
		rows = append(rows, nil)
		for j := range l {
			rows[i] = append(rows[i], must(field.Between(l[i].Panel, l[j].Panel, depth)))
		}
	}
	return rows
}

// referenceCompress is P5.7 for arguments that are valid.
func referenceCompress(l []api.Charged, t api.Tree, sep, depth int) tree.Operator {
	o := tree.Operator{Tree: t, Blocks: blocksOf(t, sep)}
	for _, b := range o.Blocks {
		source, target := t.Nodes[b.Source], t.Nodes[b.Target]
		var spans []api.Span
		for _, i := range t.Order[source.From:source.To] {
			for _, j := range t.Order[target.From:target.To] {
				if !b.Far {
					spans = append(spans, must(field.Between(l[i].Panel, l[j].Panel, depth)))
				}
			}
		}
		if b.Far {
			spans = []api.Span{referenceFarSpan(source, target).v}
		}
		o.Spans = append(o.Spans, spans)
	}
	return o
}

// bodies are charged panels for operators, not too many.
func bodies() [][]api.Charged {
	r := random()
	return [][]api.Charged{nil, row(1, 1), row(2, 60), row(7, 9), append(row(6, 4), row(5, 4)...), some(r, 5, 30, 30), some(r, 12, 1, 60), some(r, 20, 2, 50)}
}

func TestDense(t *testing.T) { // P5.7
	for _, l := range bodies() {
		for depth := range api.MaxPair + 1 {
			kept := slices.Clone(l)
			expectAlike(t, fmt.Sprint("P5.7 Dense of ", l, " depth ", depth), res(tree.Dense(l, depth)), res(referenceDense(l, depth), api.OK))
			expectAlike(t, "R5 Dense", l, kept)
		}
	}
	rows := must(tree.Dense(append(row(1, 1), some(random(), 1, 9, 9)...), 1))
	if rows[0][1] == rows[1][0] {
		t.Error("P5.7 Dense: sources and targets are as good as each other")
	}
	for _, depth := range []int{-1, 3, math.MaxInt, math.MinInt} {
		for _, l := range [][]api.Charged{nil, row(2, 3)} {
			expectAlike(t, "P5.7 Dense, depth", res(tree.Dense(l, depth)), refused[[][]api.Span](api.ErrArg))
		}
	}
}

func TestCompress(t *testing.T) { // P5.7
	far := 0
	for _, l := range bodies() {
		for _, leaf := range []int{1, 3, 16} {
			for _, sep := range []int{1, 2, 16} {
				depth := (leaf + sep) % 3
				built := referenceBuild(l, leaf)
				what := fmt.Sprint("P5.7 Compress of ", len(l), " leaf ", leaf, " sep ", sep, " depth ", depth)
				got, e := tree.Compress(l, built, sep, depth)
				want := referenceCompress(l, built, sep, depth)
				expectAlike(t, what, res(got, e), res(want, api.OK))
				stored := 0
				for k, b := range got.Blocks {
					stored += len(got.Spans[k])
					if b.Far {
						far++
					}
				}
				expect(t, "P5.7 Stored", tree.Stored(got), stored)
			}
		}
	}
	if far < 100 {
		t.Error("P5.7 too few far blocks", far)
	}
}

func TestCompressExamples(t *testing.T) { // P5.7
	expect(t, "P5.7 Stored of nothing", tree.Stored(tree.Operator{}), 0)
	expect(t, "P5.7 Stored of any operator", tree.Stored(tree.Operator{Spans: [][]api.Span{nil, {{}, {Lo: 1}}, {}, {{}}}}), 3)
	// Example 3: near to each other there are no far blocks.
	l := some(random(), 9, 3, 2)
	o := must(tree.Compress(l, must(tree.Build(l, 2)), 16, 0))
	expect(t, "P5.7 example 3", tree.Stored(o), 81)
	// DOC.md's example 5: two clusters of eight, far from each other.
	var two []api.Charged
	for range 8 {
		two = append(two, at(-60, 0, 0), at(60, 0, 0))
	}
	o = must(tree.Compress(two, must(tree.Build(two, 8)), 1, 0))
	expect(t, "P5.7 DOC.md's example 5", tree.Stored(o), 64+1+1+64)
}

func TestCompressIsNew(t *testing.T) { // R5: the operator shares no memory with the tree
	l := some(random(), 9, 1, 60)
	built := must(tree.Build(l, 1))
	kept := cloned(built)
	o := must(tree.Compress(l, built, 1, 0))
	for i := range o.Tree.Order {
		o.Tree.Order[i] = -7
	}
	for i := range o.Tree.Nodes {
		o.Tree.Nodes[i] = api.Node{}
	}
	expectAlike(t, "R5 Compress", built, kept)
	nodes, panels, _ := tree.Chosen(l, built, pt(0, 0, 0), 9)
	clear(nodes)
	clear(panels)
	expectAlike(t, "R5 Chosen", built, kept)
}

func TestEntry(t *testing.T) { // P5.7
	for _, l := range bodies() {
		for _, leaf := range []int{1, 4} {
			for _, sep := range []int{1, 3} {
				o := referenceCompress(l, referenceBuild(l, leaf), sep, 0)
				want := referenceEntries(o)
				for i := range l {
					for j := range l {
						expect(t, fmt.Sprint("P5.7 Entry ", i, j), res(tree.Entry(l, o, i, j)), res(want[[2]int{i, j}], api.OK))
					}
				}
			}
		}
	}
}

// relabeled is an operator whose spans are all different, and not those of Compress.
func relabeled(o tree.Operator) tree.Operator {
	next := 0
	var spans [][]api.Span
	for _, l := range o.Spans {
		var other []api.Span
		for range l {
			next++
			other = append(other, sp(-next, next*next))
		}
		spans = append(spans, other)
	}
	o.Spans = spans
	return o
}

func TestEntryOfOtherSpans(t *testing.T) { // P5.7: any valid spans are taken
	for _, l := range bodies() {
		for _, leaf := range []int{1, 4} {
			o := relabeled(referenceCompress(l, referenceBuild(l, leaf), 1, 0))
			want := referenceEntries(o)
			for i := range l {
				for j := range l {
					expect(t, fmt.Sprint("P5.7 Entry ", i, j), res(tree.Entry(l, o, i, j)), res(want[[2]int{i, j}], api.OK))
				}
			}
			got := res(tree.Apply(l, o))
			expectAlike(t, "P5.8 Apply", got, referenceSums(l, func(i, j int) api.Span { return want[[2]int{i, j}] }))
		}
	}
}

func TestEntryOfNoPanel(t *testing.T) { // P5.7
	for _, l := range [][]api.Charged{nil, row(1, 1), row(4, 9)} {
		o := must(tree.Compress(l, must(tree.Build(l, 1)), 1, 0))
		for _, n := range []int{-1, len(l), math.MaxInt, math.MinInt} {
			expect(t, "P5.7 Entry, no source", res(tree.Entry(l, o, n, 0)), refused[api.Span](api.ErrNone))
			expect(t, "P5.7 Entry, no target", res(tree.Entry(l, o, 0, n)), refused[api.Span](api.ErrNone))
			expect(t, "P5.7 Entry, neither", res(tree.Entry(l, o, n, n)), refused[api.Span](api.ErrNone))
		}
	}
}

func TestEntryOfAnySep(t *testing.T) { // P5.7: the blocks are those for some sep
	l := some(random(), 15, 1, 63)
	built := must(tree.Build(l, 1))
	different := map[string]bool{}
	for sep := 1; sep <= api.MaxSep; sep++ {
		o := referenceCompress(l, built, sep, 0)
		expect(t, fmt.Sprint("P5.7 Entry, sep ", sep), res(tree.Entry(l, o, 3, 4)), res(referenceEntries(o)[[2]int{3, 4}], api.OK))
		different[fmt.Sprint(o.Blocks)] = true
	}
	if len(different) < 8 {
		t.Error("P5.7 Entry: too few kinds of blocks", len(different))
	}
	// For sep 17 alone the two are not far: the distance is 47 or more for 2 * 4 * 16 * 16.
	l = row(2, 46)
	o := referenceCompress(l, must(tree.Build(l, 1)), 17, 0)
	expect(t, "P5.7 Entry, sep 17", res(tree.Entry(l, o, 0, 1)), refused[api.Span](api.ErrArg))
	// 0 is no sep either: with it all nodes with different centers would be far.
	o = referenceCompress(row(4, 1), must(tree.Build(row(4, 1), 1)), 0, 0)
	expect(t, "P5.7 Entry, sep 0", res(tree.Entry(row(4, 1), o, 0, 1)), refused[api.Span](api.ErrArg))
	o = referenceCompress(l, must(tree.Build(l, 1)), 0, 0)
	expect(t, "P5.7 Entry, sep 0", res(tree.Entry(l, o, 0, 1)), refused[api.Span](api.ErrArg))
}

// copied is an operator in new memory.
func copied(o tree.Operator) tree.Operator {
	c := tree.Operator{Tree: cloned(o.Tree), Blocks: slices.Clone(o.Blocks)}
	for _, l := range o.Spans {
		c.Spans = append(c.Spans, slices.Clone(l))
	}
	return c
}

// malformed are operators that differ from one in a block or in their spans.
func malformed(o tree.Operator) []tree.Operator {
	var l []tree.Operator
	change := func(by func(c *tree.Operator)) {
		c := copied(o)
		by(&c)
		l = append(l, c)
	}
	for k := range o.Blocks {
		change(func(c *tree.Operator) { c.Blocks[k].Far = !c.Blocks[k].Far })
		for _, n := range []int{1, -1, math.MaxInt, math.MinInt} {
			change(func(c *tree.Operator) { c.Blocks[k].Source += n })
			change(func(c *tree.Operator) { c.Blocks[k].Target += n })
		}
		change(func(c *tree.Operator) { c.Blocks = slices.Delete(c.Blocks, k, k+1) })
		change(func(c *tree.Operator) {
			c.Blocks, c.Spans = slices.Delete(c.Blocks, k, k+1), slices.Delete(c.Spans, k, k+1)
		})
		change(func(c *tree.Operator) { c.Spans = slices.Delete(c.Spans, k, k+1) })
		change(func(c *tree.Operator) { c.Spans[k] = append(c.Spans[k], api.Span{}) })
		change(func(c *tree.Operator) { c.Spans[k] = c.Spans[k][1:] })
		for i := range o.Spans[k] {
			for _, wrong := range []api.Span{sp(1, 0), sp(0, api.MaxFix+1), sp(-api.MaxFix-1, 0), sp(math.MaxInt, math.MinInt)} {
				change(func(c *tree.Operator) { c.Spans[k][i] = wrong })
			}
		}
	}
	change(func(c *tree.Operator) { c.Blocks = append(c.Blocks, api.Block{}) })
	change(func(c *tree.Operator) { c.Spans = append(c.Spans, nil) })
	change(func(c *tree.Operator) { c.Spans = append(c.Spans, []api.Span{{}}) })
	change(func(c *tree.Operator) {
		c.Blocks, c.Spans = append(c.Blocks, api.Block{}), append(c.Spans, []api.Span{{}})
	})
	return l
}

func TestMalformedOperators(t *testing.T) { // P5.7
	r := random()
	for _, l := range [][]api.Charged{nil, row(2, 60), row(3, 1), some(r, 6, 1, 60)} {
		for _, leaf := range []int{1, 2} {
			o := must(tree.Compress(l, must(tree.Build(l, leaf)), 1, 0))
			for _, wrong := range malformed(o) {
				// ErrNone comes after.
				for _, i := range []int{0, -1} {
					expect(t, fmt.Sprint("P5.7 Entry ", wrong), res(tree.Entry(l, wrong, i, 0)), refused[api.Span](api.ErrArg))
				}
				expectAlike(t, fmt.Sprint("P5.7 Apply ", wrong), res(tree.Apply(l, wrong)), refused[[]api.Span](api.ErrArg))
			}
		}
	}
}

func TestMostSpans(t *testing.T) { // P5.7: spans at the limit are valid
	l := row(2, 60)
	o := must(tree.Compress(l, must(tree.Build(l, 1)), 1, 0))
	for k := range o.Spans {
		o.Spans[k][0] = sp(-api.MaxFix, api.MaxFix)
	}
	expect(t, "P5.7 Entry at the limit", res(tree.Entry(l, o, 1, 0)), res(sp(-api.MaxFix, api.MaxFix), api.OK))
}

func TestApply(t *testing.T) { // P5.8, S1
	for _, l := range bodies() {
		for depth := range api.MaxPair + 1 {
			kept := slices.Clone(l)
			dense := res(tree.ApplyDense(l, depth))
			rows := referenceDense(l, depth)
			what := fmt.Sprint("P5.8 ", len(l), " panels, depth ", depth)
			expectAlike(t, what+" ApplyDense", dense, referenceSums(l, func(i, j int) api.Span { return rows[i][j] }))
			for _, leaf := range []int{1, 3} {
				for _, sep := range []int{1, 2, 5} {
					o := referenceCompress(l, referenceBuild(l, leaf), sep, depth)
					entries := referenceEntries(o)
					before := copied(o)
					got := res(tree.Apply(l, o))
					expectAlike(t, what+" Apply", got, referenceSums(l, func(i, j int) api.Span { return entries[[2]int{i, j}] }))
					for j := range l {
						meets(t, "S1 "+what, got.v[j], dense.v[j])
					}
					expectAlike(t, "R5 Apply", o, before)
				}
			}
			expectAlike(t, "R5 ApplyDense", l, kept)
		}
	}
}

func TestApplyTooLarge(t *testing.T) { // P5.8
	most := sp(api.MaxFix, api.MaxFix)
	for _, c := range []struct {
		charges [2]int
		spans   [4]api.Span // of 0 and 0, 0 and 1, 1 and 0, 1 and 1
		want    result[[]api.Span]
	}{
		{[2]int{1, 0}, [4]api.Span{most, most, most, most}, res([]api.Span{most, most}, api.OK)},
		{[2]int{1, -1}, [4]api.Span{most, most, most, most}, res([]api.Span{{}, {}}, api.OK)},
		{[2]int{1, 1}, [4]api.Span{most, {}, {}, most}, res([]api.Span{most, most}, api.OK)},
		{[2]int{1, 1}, [4]api.Span{{}, most, {}, sp(1, 1)}, refused[[]api.Span](api.ErrLarge)}, // the sum
		{[2]int{-1, -1}, [4]api.Span{most, {}, sp(0, 1), {}}, refused[[]api.Span](api.ErrLarge)},
		{[2]int{2, -2}, [4]api.Span{most, most, most, most}, refused[[]api.Span](api.ErrLarge)}, // a product
		{[2]int{0, 2}, [4]api.Span{{}, {}, {}, sp(0, api.MaxFix/2+1)}, refused[[]api.Span](api.ErrLarge)},
		{[2]int{0, 2}, [4]api.Span{{}, {}, {}, sp(0, api.MaxFix/2)}, res([]api.Span{{}, sp(0, api.MaxFix)}, api.OK)},
	} {
		l := row(2, 60)
		l[0].Charge, l[1].Charge = c.charges[0], c.charges[1]
		o := must(tree.Compress(l, must(tree.Build(l, 1)), 1, 0))
		for k, s := range c.spans {
			o.Spans[k][0] = s
		}
		expectAlike(t, fmt.Sprint("P5.8 Apply ", c.charges, c.spans), res(tree.Apply(l, o)), c.want)
	}
}

func TestManyPanels(t *testing.T) { // P5.7, P5.8: the most panels that there may be
	l := some(random(), api.MaxFaces, 1, 60)
	built := must(tree.Build(l, 1))
	o := must(tree.Compress(l, built, 1, 2))
	if n := tree.Stored(o); n >= len(l)*len(l)/2 {
		t.Error("P5.7 Stored: nothing is gained", n)
	}
	got, dense := must(tree.Apply(l, o)), must(tree.ApplyDense(l, 2))
	for j := range l {
		meets(t, "S1 P5.8", got[j], dense[j])
	}
}
