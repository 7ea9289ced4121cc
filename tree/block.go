package tree

import (
	"iter"

	"facet/api"
)

// blocks finds the blocks of a tree, one by one.
func blocks(t api.Tree, sep int) iter.Seq[api.Block] {
	return func(yield func(api.Block) bool) {
		var visit func(a, b int) bool
		visit = func(a, b int) bool {
			source, target := t.Nodes[a], t.Nodes[b]
			switch {
			case areFar(source, target, sep):
				return yield(api.Block{Source: a, Target: b, Far: true})
			case isLeaf(source) && isLeaf(target):
				return yield(api.Block{Source: a, Target: b})
			// The larger one is not a leaf: leaves are smaller than all other nodes.
			case size(source) >= size(target):
				return visit(source.Left, b) && visit(source.Right, b)
			}
			return visit(a, target.Left) && visit(a, target.Right)
		}
		if len(t.Nodes) > 0 {
			visit(0, 0)
		}
	}
}

// areFar reports whether two nodes are a far pair.
func areFar(a, b api.Node, sep int) bool {
	distance := distance2(a.Center, b.Center)
	return (a.Radius2+b.Radius2)*4*sep*sep <= distance && distance > 0
}

// sameBlocks reports whether a list has the blocks that are found, and no others.
func sameBlocks(list []api.Block, found iter.Seq[api.Block]) bool {
	k := 0
	for b := range found {
		if k == len(list) || list[k] != b {
			return false
		}
		k++
	}
	return k == len(list)
}

// covers reports whether each pair of panels is in exactly one of some blocks. It
// ends with the first pair that is in two, so that many blocks do not take long.
func covers(t api.Tree, list []api.Block) bool {
	seen := map[[2]int]bool{}
	for _, b := range list {
		if !inRange(b.Source, 0, len(t.Nodes)-1) || !inRange(b.Target, 0, len(t.Nodes)-1) {
			return false
		}
		for _, i := range places(t, b.Source) {
			for _, j := range places(t, b.Target) {
				if seen[[2]int{i, j}] {
					return false
				}
				seen[[2]int{i, j}] = true
			}
		}
	}
	return len(seen) == len(t.Order)*len(t.Order)
}
