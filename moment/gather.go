package moment

import "facet/api"

// places are the axes of the second moments xx, xy, xz, yy, yz, zz.
var places = [6][2]int{{0, 0}, {0, 1}, {0, 2}, {1, 1}, {1, 2}, {2, 2}}

// about is a center, from which panels are seen.
type about struct {
	center vector
}

func aboutPoint(center api.Point) about {
	return about{center: vectorOf(center)}
}

// corners returns the corners of a panel minus the center.
func (a about) corners(p api.Panel) [3]vector {
	l := [3]vector{vectorOf(p.A), vectorOf(p.B), vectorOf(p.C)}
	for i := range l {
		l[i] = l[i].plus(-1, a.center)
	}
	return l
}

// gathered are the moments of the panels gathered so far. They embed their center,
// because they count panels as it sees them.
type gathered struct {
	about
	api.Moments
}

// gather adds the moments of a charged panel.
func (g *gathered) gather(c api.Charged) {
	l := g.corners(c.Panel)
	s := l[0].plus(1, l[1]).plus(1, l[2])
	g.Charge += c.Charge
	g.Total += max(c.Charge, -c.Charge)
	g.Dipole = vectorOf(g.Dipole).plus(c.Charge, s).point()
	for k, p := range places {
		i, j := p[0], p[1]
		products := s[i] * s[j]
		for _, v := range l {
			products += v[i] * v[j]
		}
		g.Second[k] += c.Charge * products
	}
}

func trace(second [6]int) int {
	sum := 0
	for k, p := range places {
		if p[0] == p[1] {
			sum += second[k]
		}
	}
	return sum
}
