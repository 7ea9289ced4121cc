package tree

import (
	"facet/api"
	"facet/span"
)

// maxRadius2 is the greatest Radius2 of FarSpan.
const maxRadius2 = 1 << 17

func inRange(n, from, to int) bool {
	return from <= n && n <= to
}

// within reports whether the coordinates of a point are from -limit to limit.
func within(p api.Point, limit int) bool {
	for _, n := range axes(p) {
		if !inRange(n, -limit, limit) {
			return false
		}
	}
	return true
}

// mayAsk reports whether a point may be asked about.
func mayAsk(x api.Point) bool {
	return within(x, api.MaxPoint)
}

// isBall reports whether FarSpan takes a node.
func isBall(n api.Node) bool {
	return inRange(n.Radius2, 0, maxRadius2) && within(n.Center, api.MaxCoord)
}

// checkOperator returns the error of charged panels, and then that of an operator.
func checkOperator(l []api.Charged, o Operator) api.Errno {
	if e := Check(l, o.Tree); e != api.OK {
		return e
	}
	if !areBlocks(o) || !areSpans(o) {
		return api.ErrArg
	}
	return api.OK
}

// areBlocks reports whether an operator has the blocks of its tree, for some sep.
func areBlocks(o Operator) bool {
	for sep := 1; sep <= api.MaxSep; sep++ {
		if sameBlocks(o.Blocks, blocks(o.Tree, sep)) {
			return true
		}
	}
	return false
}

// areSpans reports whether an operator has as many spans as its blocks need, all
// of them valid.
func areSpans(o Operator) bool {
	if len(o.Spans) != len(o.Blocks) {
		return false
	}
	for k, b := range o.Blocks {
		if len(o.Spans[k]) != stored(o.Tree, b) {
			return false
		}
		for _, s := range o.Spans[k] {
			if !span.Valid(s) {
				return false
			}
		}
	}
	return true
}
