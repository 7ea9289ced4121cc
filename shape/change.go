package shape

import (
	"slices"

	"facet/api"
)

// Move adds v to all points (P2.6).
func Move(m api.Mesh, v api.Point) (api.Mesh, api.Errno) {
	if e := Validate(m); e != api.OK {
		return api.Mesh{}, e
	}
	if !within(v, 2*api.MaxCoord) {
		return api.Mesh{}, api.ErrArg
	}
	return checked(placed(m, func(p api.Point) api.Point { return plus(p, v) }))
}

// Scale multiplies all coordinates by k (P2.6).
func Scale(m api.Mesh, k int) (api.Mesh, api.Errno) {
	if e := Validate(m); e != api.OK {
		return api.Mesh{}, e
	}
	if k < 1 || k > 2*api.MaxCoord {
		return api.Mesh{}, api.ErrArg
	}
	return checked(placed(m, func(p api.Point) api.Point { return times(k, p) }))
}

// Turn turns a mesh around the z axis by a right angle (P2.6).
func Turn(m api.Mesh) (api.Mesh, api.Errno) {
	if e := Validate(m); e != api.OK {
		return api.Mesh{}, e
	}
	return checked(placed(m, func(p api.Point) api.Point { return api.Point{X: -p.Y, Y: p.X, Z: p.Z} }))
}

// Mirror mirrors a mesh at the plane x = 0 (P2.6).
func Mirror(m api.Mesh) (api.Mesh, api.Errno) {
	if e := Validate(m); e != api.OK {
		return api.Mesh{}, e
	}
	mirrored := placed(m, func(p api.Point) api.Point { return api.Point{X: -p.X, Y: p.Y, Z: p.Z} })
	for i, f := range mirrored.Faces {
		mirrored.Faces[i] = [3]int{f[0], f[2], f[1]}
	}
	return checked(mirrored)
}

// Finer cuts each triangle of the doubled surface in four (P2.7).
func Finer(m api.Mesh) (api.Mesh, api.Errno) {
	if e := Validate(m); e != api.OK {
		return api.Mesh{}, e
	}
	fine := placed(m, func(p api.Point) api.Point { return times(2, p) })
	fine.Faces = nil
	number := map[side]int{}
	middle := func(s side) int {
		edge := side{min(s[0], s[1]), max(s[0], s[1])}
		n, known := number[edge]
		if !known {
			n = len(fine.Points)
			number[edge] = n
			// The middle of the doubled ends is the sum of the old ones.
			fine.Points = append(fine.Points, plus(m.Points[s[0]], m.Points[s[1]]))
		}
		return n
	}
	for _, f := range m.Faces {
		var mid [3]int
		for k, s := range sides(f) {
			mid[k] = middle(s)
		}
		a, b, c := f[0], f[1], f[2]
		p, q, r := mid[0], mid[1], mid[2]
		fine.Faces = append(fine.Faces, [3]int{a, p, r}, [3]int{p, b, q}, [3]int{r, q, c}, [3]int{p, q, r})
	}
	return checked(fine)
}

// Unite returns both surfaces as one mesh (P2.8).
func Unite(a, b api.Mesh) (api.Mesh, api.Errno) {
	for _, m := range [2]api.Mesh{a, b} {
		if e := Validate(m); e != api.OK {
			return api.Mesh{}, e
		}
	}
	both := api.Mesh{Points: slices.Concat(a.Points, b.Points), Faces: slices.Clone(a.Faces)}
	before := len(a.Points)
	for _, f := range b.Faces {
		both.Faces = append(both.Faces, [3]int{f[0] + before, f[1] + before, f[2] + before})
	}
	return checked(both)
}

// placed returns the mesh with each point at its new place.
func placed(m api.Mesh, place func(api.Point) api.Point) api.Mesh {
	points := slices.Clone(m.Points)
	for i, p := range points {
		points[i] = place(p)
	}
	return api.Mesh{Points: points, Faces: slices.Clone(m.Faces)}
}
