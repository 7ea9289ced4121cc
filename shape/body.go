package shape

import "facet/api"

// Block returns the box from 0 0 0 to a b c (P2.8).
func Block(a, b, c int) (api.Mesh, api.Errno) {
	if !isSize(a) || !isSize(b) || !isSize(c) {
		return api.Mesh{}, api.ErrArg
	}
	var points []api.Point
	for n := range 8 {
		points = append(points, api.Point{X: a * (n & 1), Y: b * (n >> 1 & 1), Z: c * (n >> 2)})
	}
	return checked(api.Mesh{Points: points, Faces: [][3]int{
		{0, 2, 3}, {0, 3, 1}, {4, 5, 7}, {4, 7, 6}, {0, 1, 5}, {0, 5, 4},
		{2, 6, 7}, {2, 7, 3}, {0, 4, 6}, {0, 6, 2}, {1, 3, 7}, {1, 7, 5},
	}})
}

// Octa returns the octahedron with its corners on the axes, r away from 0 0 0 (P2.8).
func Octa(r int) (api.Mesh, api.Errno) {
	if !isSize(r) {
		return api.Mesh{}, api.ErrArg
	}
	return checked(api.Mesh{
		Points: []api.Point{{X: r}, {X: -r}, {Y: r}, {Y: -r}, {Z: r}, {Z: -r}},
		Faces: [][3]int{
			{0, 2, 4}, {2, 1, 4}, {1, 3, 4}, {3, 0, 4},
			{2, 0, 5}, {1, 2, 5}, {3, 1, 5}, {0, 3, 5},
		},
	})
}

func isSize(n int) bool {
	return n >= 1 && n <= api.MaxCoord
}
