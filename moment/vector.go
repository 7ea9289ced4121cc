package moment

import "facet/api"

// vector has the coordinates of a point, or those of one seen from another.
type vector [3]int

func vectorOf(p api.Point) vector {
	return vector{p.X, p.Y, p.Z}
}

func (v vector) point() api.Point {
	return api.Point{X: v[0], Y: v[1], Z: v[2]}
}

// plus returns v + k*w.
func (v vector) plus(k int, w vector) vector {
	for i := range v {
		v[i] += k * w[i]
	}
	return v
}

func (v vector) scalar(w vector) int {
	return v[0]*w[0] + v[1]*w[1] + v[2]*w[2]
}

// within reports whether the coordinates are from -limit to limit.
func (v vector) within(limit int) bool {
	for _, x := range v {
		if !within(x, limit) {
			return false
		}
	}
	return true
}
