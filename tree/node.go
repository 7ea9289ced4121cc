package tree

import (
	"slices"

	"facet/api"
	"facet/field"
	"facet/moment"
	"facet/span"
)

func isLeaf(n api.Node) bool {
	return n.Left == none
}

// size returns the number of panels of a node.
func size(n api.Node) int {
	return n.To - n.From
}

// places returns the numbers of the panels of a node, in the order of the tree. It
// is a part of that order: read it only.
func places(t api.Tree, k int) []int {
	return t.Order[t.Nodes[k].From:t.Nodes[k].To]
}

// pick returns the panels of a node, in the order of the tree.
func pick(l []api.Charged, t api.Tree, k int) []api.Charged {
	var panels []api.Charged
	for _, i := range places(t, k) {
		panels = append(panels, l[i])
	}
	return panels
}

func clone(t api.Tree) api.Tree {
	return api.Tree{Order: slices.Clone(t.Order), Nodes: slices.Clone(t.Nodes)}
}

// choose goes down a tree to the far nodes, seen from x, and else to panels.
func choose(t api.Tree, x api.Point, sep int) (nodes, panels []int) {
	var visit func(k int)
	visit = func(k int) {
		node := t.Nodes[k]
		switch {
		case isFar(node, x, sep):
			nodes = append(nodes, k)
		case isLeaf(node):
			panels = append(panels, places(t, k)...)
		default:
			visit(node.Left)
			visit(node.Right)
		}
	}
	if len(t.Nodes) > 0 {
		visit(0)
	}
	return nodes, panels
}

// isFar reports whether a node is far, seen from x. Outside of its ball x has to be
// even where the ball is a point.
func isFar(n api.Node, x api.Point, sep int) bool {
	distance := distance2(x, n.Center)
	return n.Radius2*sep*sep <= distance && n.Radius2 < distance
}

// farField returns a span of the potential of the panels of a node, by its moments.
func farField(panels []api.Charged, n api.Node, x api.Point, order int) (api.Span, api.Errno) {
	m, e := moment.Of(panels, n.Center)
	if e != api.OK {
		return api.Span{}, e
	}
	return moment.Far(m, n.Radius2, minus(x, n.Center), order)
}

// nearField returns a span of the potential of a panel.
func nearField(c api.Charged, x api.Point, depth int) (api.Span, api.Errno) {
	mean, e := field.Mean(c.Panel, x, depth)
	if e != api.OK {
		return api.Span{}, e
	}
	return span.Scale(mean, c.Charge)
}
