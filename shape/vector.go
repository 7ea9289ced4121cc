package shape

import "facet/api"

func plus(a, b api.Point) api.Point {
	return api.Point{X: a.X + b.X, Y: a.Y + b.Y, Z: a.Z + b.Z}
}

func minus(a, b api.Point) api.Point {
	return plus(a, times(-1, b))
}

func times(k int, a api.Point) api.Point {
	return api.Point{X: k * a.X, Y: k * a.Y, Z: k * a.Z}
}

func scalar(a, b api.Point) int {
	return a.X*b.X + a.Y*b.Y + a.Z*b.Z
}

func vector(a, b api.Point) api.Point {
	return api.Point{X: a.Y*b.Z - a.Z*b.Y, Y: a.Z*b.X - a.X*b.Z, Z: a.X*b.Y - a.Y*b.X}
}

func normal(p api.Panel) api.Point {
	return vector(minus(p.B, p.A), minus(p.C, p.A))
}

// product returns the scalar product of the first corner with the vector
// product of the others: above 0 if the normal points away from the origin.
func product(p api.Panel) int {
	return scalar(p.A, vector(p.B, p.C))
}

// within reports whether the coordinates are from -limit to limit.
func within(p api.Point, limit int) bool {
	for _, x := range [3]int{p.X, p.Y, p.Z} {
		if x < -limit || x > limit {
			return false
		}
	}
	return true
}
