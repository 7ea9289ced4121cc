package shape

import "facet/api"

// side is a pair of corners that follow each other in a face.
type side [2]int

// back is the same edge in the other direction.
func (s side) back() side {
	return side{s[1], s[0]}
}

// Edges returns the number of edges (P2.4).
func Edges(m api.Mesh) (int, api.Errno) {
	if e := Validate(m); e != api.OK {
		return 0, e
	}
	return edges(m), api.OK
}

// Parts returns the number of connected parts (P2.4).
func Parts(m api.Mesh) (int, api.Errno) {
	if e := Validate(m); e != api.OK {
		return 0, e
	}
	return parts(m), api.OK
}

// Handles returns the number of handles of all parts together (P2.4).
func Handles(m api.Mesh) (int, api.Errno) {
	if e := Validate(m); e != api.OK {
		return 0, e
	}
	// A point with several fans counts once for each: points + d is the number of fans.
	return (2*parts(m) - (fans(m) - edges(m) + len(m.Faces))) / 2, api.OK
}

func sides(f [3]int) [3]side {
	return [3]side{{f[0], f[1]}, {f[1], f[2]}, {f[2], f[0]}}
}

func countSides(faces [][3]int) map[side]int {
	count := map[side]int{}
	for _, f := range faces {
		for _, s := range sides(f) {
			count[s]++
		}
	}
	return count
}

func edges(m api.Mesh) int {
	// Each edge of a closed surface has two sides, one in each direction.
	return len(countSides(m.Faces)) / 2
}

// across returns, for each side of each face, the number of the same edge's
// side in the other direction. The side k of the face i has the number 3*i + k.
func across(faces [][3]int) []int {
	number := map[side]int{}
	for i, f := range faces {
		for k, s := range sides(f) {
			number[s] = 3*i + k
		}
	}
	var l []int
	for _, f := range faces {
		for _, s := range sides(f) {
			l = append(l, number[s.back()])
		}
	}
	return l
}

func parts(m api.Mesh) int {
	var pairs [][2]int
	for s, t := range across(m.Faces) {
		pairs = append(pairs, [2]int{s / 3, t / 3})
	}
	return groups(len(m.Faces), pairs)
}

// fans returns the number of the fans around all points. It groups the corners
// of faces, each of which has the number of the side that begins there.
func fans(m api.Mesh) int {
	var pairs [][2]int
	for s, t := range across(m.Faces) {
		// The side t goes back to the point where s begins, and ends where the next side begins.
		next := t - t%3 + (t+1)%3
		pairs = append(pairs, [2]int{s, next})
	}
	return groups(3*len(m.Faces), pairs)
}

// groups returns how many groups the numbers from 0 to n - 1 make, if those of
// each pair are in one group.
func groups(n int, pairs [][2]int) int {
	leader := make([]int, n)
	for i := range leader {
		leader[i] = i
	}
	lead := func(i int) int {
		for leader[i] != i {
			i = leader[i]
		}
		return i
	}
	for _, p := range pairs {
		a, b := lead(p[0]), lead(p[1])
		if a != b {
			leader[a] = b
			n--
		}
	}
	return n
}
