package field

import (
	"facet/api"
	"facet/shape"
)

func inRange(n, from, to int) bool {
	return from <= n && n <= to
}

// mayAsk reports whether a point may be asked about.
func mayAsk(x api.Point) bool {
	for _, n := range [3]int{x.X, x.Y, x.Z} {
		if !inRange(n, -api.MaxPoint, api.MaxPoint) {
			return false
		}
	}
	return true
}

// checkCut returns the error of a panel, and then that of a depth.
func checkCut(p api.Panel, depth int) api.Errno {
	if e := shape.ValidatePanel(p); e != api.OK {
		return e
	}
	if !inRange(depth, 0, api.MaxDepth) {
		return api.ErrArg
	}
	return api.OK
}

// checkSeen returns the error of a panel, and then those of a point and a depth.
func checkSeen(p api.Panel, x api.Point, depth int) api.Errno {
	if e := shape.ValidatePanel(p); e != api.OK {
		return e
	}
	return checkAsked(x, depth)
}

// checkAsked returns the error of a point and a depth.
func checkAsked(x api.Point, depth int) api.Errno {
	if !mayAsk(x) || !inRange(depth, 0, api.MaxDepth) {
		return api.ErrArg
	}
	return api.OK
}

// checkPair returns the errors of two panels, and then that of a depth.
func checkPair(p, q api.Panel, depth int) api.Errno {
	for _, panel := range [2]api.Panel{p, q} {
		if e := shape.ValidatePanel(panel); e != api.OK {
			return e
		}
	}
	if !inRange(depth, 0, api.MaxPair) {
		return api.ErrArg
	}
	return api.OK
}
