package tree

import "facet/api"

func axes(p api.Point) [3]int {
	return [3]int{p.X, p.Y, p.Z}
}

func corners(c api.Charged) [3]api.Point {
	return [3]api.Point{c.Panel.A, c.Panel.B, c.Panel.C}
}

func minus(a, b api.Point) api.Point {
	return api.Point{X: a.X - b.X, Y: a.Y - b.Y, Z: a.Z - b.Z}
}

// distance2 returns the squared distance of two points.
func distance2(a, b api.Point) int {
	sum := 0
	for _, n := range axes(minus(a, b)) {
		sum += n * n
	}
	return sum
}

// center returns the middle of the box of some panels, rounded down.
func center(panels []api.Charged) api.Point {
	least := axes(panels[0].Panel.A)
	most := least
	for _, c := range panels {
		for _, corner := range corners(c) {
			for i, n := range axes(corner) {
				least[i], most[i] = min(least[i], n), max(most[i], n)
			}
		}
	}
	return api.Point{X: middle(least[0], most[0]), Y: middle(least[1], most[1]), Z: middle(least[2], most[2])}
}

// middle returns the half of a sum, rounded down: a shift does so below 0, too.
func middle(a, b int) int {
	return (a + b) >> 1
}
