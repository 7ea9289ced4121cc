package shape

import "facet/api"

// Validate returns the first error of a mesh (P2.1).
func Validate(m api.Mesh) api.Errno {
	if len(m.Points) > api.MaxPoints || len(m.Faces) == 0 || len(m.Faces) > api.MaxFaces {
		return api.ErrLarge
	}
	if !validPoints(m.Points) {
		return api.ErrArg
	}
	for _, f := range m.Faces {
		if e := validateFace(m, f); e != api.OK {
			return e
		}
	}
	switch {
	case !closed(m.Faces):
		return api.ErrOpen
	case !allUsed(m):
		return api.ErrNone
	case volume6(m) <= 0:
		return api.ErrTurned
	}
	return api.OK
}

// ValidatePanel returns the first error of a triangle (P2.2).
func ValidatePanel(p api.Panel) api.Errno {
	for _, corner := range [3]api.Point{p.A, p.B, p.C} {
		if !within(corner, api.MaxCoord) {
			return api.ErrArg
		}
	}
	if normal(p) == (api.Point{}) {
		return api.ErrFlat
	}
	return api.OK
}

// validPoints reports whether all points are in range and no two are equal.
func validPoints(l []api.Point) bool {
	found := map[api.Point]bool{}
	for _, p := range l {
		if !within(p, api.MaxCoord) || found[p] {
			return false
		}
		found[p] = true
	}
	return true
}

func validateFace(m api.Mesh, f [3]int) api.Errno {
	for _, n := range f {
		if n < 0 || n >= len(m.Points) {
			return api.ErrNone
		}
	}
	return ValidatePanel(panel(m, f))
}

// closed reports whether each side is there once in each direction.
func closed(faces [][3]int) bool {
	count := countSides(faces)
	for _, f := range faces {
		for _, s := range sides(f) {
			if count[s] != 1 || count[s.back()] != 1 {
				return false
			}
		}
	}
	return true
}

func allUsed(m api.Mesh) bool {
	used := make([]bool, len(m.Points))
	for _, f := range m.Faces {
		for _, n := range f {
			used[n] = true
		}
	}
	for _, u := range used {
		if !u {
			return false
		}
	}
	return true
}

// checked returns a mesh that a function made, or the error of Validate for it.
func checked(m api.Mesh) (api.Mesh, api.Errno) {
	if e := Validate(m); e != api.OK {
		return api.Mesh{}, e
	}
	return m, api.OK
}
