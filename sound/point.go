package sound

import "facet/api"

func square(n int) int {
	return n * n
}

func times(k int, a api.Point) api.Point {
	return api.Point{X: k * a.X, Y: k * a.Y, Z: k * a.Z}
}

func squaredDistance(a, b api.Point) int {
	return square(a.X-b.X) + square(a.Y-b.Y) + square(a.Z-b.Z)
}

// far returns the greatest squared distance of a corner of a triangle from x.
func far(t api.Panel, x api.Point) int {
	return max(squaredDistance(t.A, x), squaredDistance(t.B, x), squaredDistance(t.C, x))
}

// near returns the squared distance of the box of a triangle from x.
func near(t api.Panel, x api.Point) int {
	inBox := api.Point{
		X: nearest(x.X, t.A.X, t.B.X, t.C.X),
		Y: nearest(x.Y, t.A.Y, t.B.Y, t.C.Y),
		Z: nearest(x.Z, t.A.Z, t.B.Z, t.C.Z),
	}
	return squaredDistance(x, inBox)
}

// nearest returns the number from the smallest to the greatest of a, b and c that is
// nearest to n.
func nearest(n, a, b, c int) int {
	return min(max(n, min(a, b, c)), max(a, b, c))
}

// isBehind reports whether a pulse begins, at least partly, behind the wall.
func isBehind(p api.Pulse) bool {
	return min(p.Panel.A.Z, p.Panel.B.Z, p.Panel.C.Z) < 0
}

// image returns a pulse as the wall throws it back.
func image(p api.Pulse, soft bool) api.Pulse {
	p.Panel = api.Panel{A: mirrored(p.Panel.A), B: mirrored(p.Panel.B), C: mirrored(p.Panel.C)}
	if soft {
		p.Power = -p.Power
	}
	return p
}

func mirrored(a api.Point) api.Point {
	return api.Point{X: a.X, Y: a.Y, Z: -a.Z}
}
