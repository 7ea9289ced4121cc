package shape

import (
	"cmp"

	"facet/api"
)

// steep is above all coordinates of the vector product of two corners, seen
// from a point that is asked: those are at most 2 * (MaxPoint + MaxCoord)^2.
const steep = 1 << 20

// On reports whether p lies in some face (P2.5).
func On(m api.Mesh, p api.Point) (bool, api.Errno) {
	if e := Validate(m); e != api.OK {
		return false, e
	}
	if !within(p, api.MaxPoint) {
		return false, api.ErrArg
	}
	for _, t := range panels(m) {
		if hasOrigin(seen(t, p)) {
			return true, api.OK
		}
	}
	return false, api.OK
}

// Winding returns the winding number of the surface around p (P2.5). It is the
// number of times that a ray from p leaves the surface, less those that it
// enters it.
func Winding(m api.Mesh, p api.Point) (int, api.Errno) {
	on, e := On(m, p)
	if e != api.OK {
		return 0, e
	}
	if on {
		return 0, api.ErrOn
	}
	sum := 0
	for _, t := range panels(m) {
		sum += crossing(seen(t, p))
	}
	return sum, api.OK
}

// seen returns a triangle with p as the origin.
func seen(t api.Panel, p api.Point) api.Panel {
	return api.Panel{A: minus(t.A, p), B: minus(t.B, p), C: minus(t.C, p)}
}

// fromOrigin returns the vector products of the corners that follow each other:
// the normals of the planes through the origin and a side.
func fromOrigin(t api.Panel) [3]api.Point {
	return [3]api.Point{vector(t.A, t.B), vector(t.B, t.C), vector(t.C, t.A)}
}

// hasOrigin reports whether the origin lies in a triangle.
func hasOrigin(t api.Panel) bool {
	n := normal(t)
	if scalar(n, t.A) != 0 {
		return false
	}
	// In the plane of the triangle: inside if no side has the origin on its right.
	for _, v := range fromOrigin(t) {
		if scalar(n, v) < 0 {
			return false
		}
	}
	return true
}

// crossing returns 1 if a ray from the origin passes through a triangle to the
// side to which the normal points, -1 if to the other one, and 0 if it passes by.
//
// The ray is so steep that its scalar product with a vector product of corners
// is 0 only if that is 0 0 0. So it meets no line through two corners, except at
// the origin, which does not lie on the surface: no edge has to be considered.
func crossing(t api.Panel) int {
	ray := api.Point{X: 1, Y: steep, Z: steep * steep}
	// The ray is a sum of multiples of the corners; a multiple is above 0 if the
	// ray and the corner are on the same side of the plane through the others.
	away := cmp.Compare(product(t), 0)
	for _, v := range fromOrigin(t) {
		if cmp.Compare(scalar(ray, v), 0) != away {
			return 0
		}
	}
	return away
}
