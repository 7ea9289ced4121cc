package tree

import (
	"facet/api"
	"facet/field"
	"facet/span"
)

// reach returns the smallest and the greatest distance of two points in the balls of
// two nodes, in fixed point, rounded outward; it may be below 0.
func reach(a, b api.Node) (near, far int, e api.Errno) {
	distance, e := span.Length(distance2(a.Center, b.Center))
	if e != api.OK {
		return 0, 0, e
	}
	radii := 0
	for _, n := range [2]api.Node{a, b} {
		radius, e := span.Length(n.Radius2)
		if e != api.OK {
			return 0, 0, e
		}
		radii += radius.Hi
	}
	return distance.Lo - radii, distance.Hi + radii, api.OK
}

// between returns the span of each of some sources and each of some targets.
func between(l []api.Charged, sources, targets []int, depth int) ([]api.Span, api.Errno) {
	var spans []api.Span
	for _, i := range sources {
		for _, j := range targets {
			s, e := field.Between(l[i].Panel, l[j].Panel, depth)
			if e != api.OK {
				return nil, e
			}
			spans = append(spans, s)
		}
	}
	return spans, api.OK
}

// spansOf returns the spans of a block.
func spansOf(l []api.Charged, t api.Tree, b api.Block, depth int) ([]api.Span, api.Errno) {
	if !b.Far {
		return between(l, places(t, b.Source), places(t, b.Target), depth)
	}
	s, e := FarSpan(t.Nodes[b.Source], t.Nodes[b.Target])
	if e != api.OK {
		return nil, e
	}
	return []api.Span{s}, api.OK
}

// stored returns the number of spans of a block.
func stored(t api.Tree, b api.Block) int {
	if b.Far {
		return 1
	}
	return size(t.Nodes[b.Source]) * size(t.Nodes[b.Target])
}

// unfold returns the spans of all sources and targets of an operator.
func unfold(o Operator) [][]api.Span {
	rows := make([][]api.Span, len(o.Tree.Order))
	for i := range rows {
		rows[i] = make([]api.Span, len(rows))
	}
	for k, b := range o.Blocks {
		next := 0
		for _, i := range places(o.Tree, b.Source) {
			for _, j := range places(o.Tree, b.Target) {
				rows[i][j] = o.Spans[k][next]
				if !b.Far {
					next++
				}
			}
		}
	}
	return rows
}

// apply adds up, for each target, what the charges of all sources do.
func apply(l []api.Charged, rows [][]api.Span) ([]api.Span, api.Errno) {
	var sums []api.Span
	for j := range l {
		var spans []api.Span
		for i, c := range l {
			s, e := span.Scale(rows[i][j], c.Charge)
			if e != api.OK {
				return nil, e
			}
			spans = append(spans, s)
		}
		sum, e := span.Sum(spans)
		if e != api.OK {
			return nil, e
		}
		sums = append(sums, sum)
	}
	return sums, api.OK
}
