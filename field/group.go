package field

import "facet/api"

// group has some points of one grid and their box.
type group struct {
	points []api.Point
	lo, hi api.Point
}

func groupOf(points ...api.Point) group {
	g := group{points: points, lo: points[0], hi: points[0]}
	for _, p := range points {
		g.lo = api.Point{X: min(g.lo.X, p.X), Y: min(g.lo.Y, p.Y), Z: min(g.lo.Z, p.Z)}
		g.hi = api.Point{X: max(g.hi.X, p.X), Y: max(g.hi.Y, p.Y), Z: max(g.hi.Z, p.Z)}
	}
	return g
}

// corners returns the corners of a triangle in a grid that is scale times as fine.
func corners(t api.Panel, scale int) group {
	return groupOf(times(scale, t.A), times(scale, t.B), times(scale, t.C))
}

// partGroups returns the corners of each part of a panel, in order.
func partGroups(p api.Panel, depth int) []group {
	var l []group
	for part := range parts(p, depth) {
		l = append(l, corners(part, 1))
	}
	return l
}

// far returns the greatest squared distance of a point of a and one of b.
func far(a, b group) int {
	most := 0
	for _, p := range a.points {
		for _, q := range b.points {
			v := minus(p, q)
			most = max(most, scalar(v, v))
		}
	}
	return most
}

// near returns the squared distance of the boxes of a and b.
func near(a, b group) int {
	gaps := api.Point{
		X: gap(a.lo.X, a.hi.X, b.lo.X, b.hi.X),
		Y: gap(a.lo.Y, a.hi.Y, b.lo.Y, b.hi.Y),
		Z: gap(a.lo.Z, a.hi.Z, b.lo.Z, b.hi.Z),
	}
	return scalar(gaps, gaps)
}

// gap returns how far apart two intervals are: 0 where they overlap or touch.
func gap(aLo, aHi, bLo, bHi int) int {
	return max(0, bLo-aHi, aLo-bHi)
}

func plus(a, b api.Point) api.Point {
	return api.Point{X: a.X + b.X, Y: a.Y + b.Y, Z: a.Z + b.Z}
}

func minus(a, b api.Point) api.Point {
	return api.Point{X: a.X - b.X, Y: a.Y - b.Y, Z: a.Z - b.Z}
}

func times(k int, a api.Point) api.Point {
	return api.Point{X: k * a.X, Y: k * a.Y, Z: k * a.Z}
}

func scalar(a, b api.Point) int {
	return a.X*b.X + a.Y*b.Y + a.Z*b.Z
}
