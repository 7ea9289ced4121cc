package tree

import (
	"cmp"
	"slices"

	"facet/api"
	"facet/moment"
)

// none stands for the parts that a leaf does not have.
const none = -1

// grow returns the tree of charged panels, still without centers and radii.
func grow(l []api.Charged, leaf int) api.Tree {
	t := api.Tree{Order: numbers(len(l))}
	var add func(from, to int) int
	add = func(from, to int) int {
		k := len(t.Nodes)
		t.Nodes = append(t.Nodes, api.Node{From: from, To: to, Left: none, Right: none})
		if to-from <= leaf {
			return k
		}
		sortPanels(l, t.Order[from:to])
		middle := from + (to-from+1)/2
		left := add(from, middle)
		right := add(middle, to)
		t.Nodes[k].Left, t.Nodes[k].Right = left, right
		return k
	}
	if len(l) > 0 {
		add(0, len(l))
	}
	return t
}

// measure gives the nodes of a tree their centers and radii.
func measure(l []api.Charged, t api.Tree) api.Errno {
	for k := range t.Nodes {
		node := &t.Nodes[k]
		panels := pick(l, t, k)
		node.Center = center(panels)
		radius2, e := moment.Radius2(panels, node.Center)
		if e != api.OK {
			return e
		}
		node.Radius2 = radius2
	}
	return api.OK
}

// numbers returns the numbers from 0 to n - 1.
func numbers(n int) []int {
	var l []int
	for i := range n {
		l = append(l, i)
	}
	return l
}

// sorter sorts panels, given by their numbers, along an axis.
type sorter struct {
	panels []api.Charged
	axis   int
}

// key returns the sum of the coordinates of the corners of a panel.
func (s sorter) key(i int) int {
	sum := 0
	for _, corner := range corners(s.panels[i]) {
		sum += axes(corner)[s.axis]
	}
	return sum
}

func (s sorter) compare(i, j int) int {
	return cmp.Or(cmp.Compare(s.key(i), s.key(j)), cmp.Compare(i, j))
}

// width returns the difference of the greatest and the smallest key.
func (s sorter) width(chosen []int) int {
	least, most := s.key(chosen[0]), s.key(chosen[0])
	for _, i := range chosen {
		least, most = min(least, s.key(i)), max(most, s.key(i))
	}
	return most - least
}

// sortPanels sorts the numbers of panels along the axis on which their keys differ
// most.
func sortPanels(l []api.Charged, chosen []int) {
	best := sorter{panels: l}
	for axis := 1; axis < 3; axis++ {
		s := sorter{panels: l, axis: axis}
		if s.width(chosen) > best.width(chosen) {
			best = s
		}
	}
	slices.SortFunc(chosen, best.compare)
}

// largestLeaf returns the number of panels of the largest leaf of a tree, and 1 if
// there are none.
func largestLeaf(t api.Tree) int {
	most := 1
	for _, node := range t.Nodes {
		if isLeaf(node) {
			most = max(most, size(node))
		}
	}
	return most
}
