package hold

import (
	"facet/api"
	"facet/shape"
	"facet/span"
)

// table has what the face i does at the face j in the row j, at the place i: so the
// sums over the charged faces i go along a row.
type table [][]api.Span

// effect is what a panel p does at a panel q: field.Between or field.Mutual.
type effect func(p, q api.Panel, depth int) (api.Span, api.Errno)

func tabulate(m api.Mesh, depth int, of effect) (table, api.Errno) {
	panels, e := shape.Panels(m)
	if e != api.OK {
		return nil, e
	}
	t := make(table, len(panels))
	for j, q := range panels {
		for _, p := range panels {
			s, e := of(p, q, depth)
			if e != api.OK {
				return nil, e
			}
			t[j] = append(t[j], s)
		}
	}
	return t, api.OK
}

// potentials returns, for each face, what the charges of all faces do there.
func (t table) potentials(charges []int) ([]api.Span, api.Errno) {
	var l []api.Span
	for _, row := range t {
		s, e := weighted(row, charges)
		if e != api.OK {
			return nil, e
		}
		l = append(l, s)
	}
	return l, api.OK
}

// energy returns what the charges of all faces do at those of all faces. The sum goes
// along each row first: nothing is rounded and nothing is below 0, so that it is the
// same as over all pairs, and too large if that is.
func (t table) energy(charges []int) (api.Span, api.Errno) {
	l, e := t.potentials(charges)
	if e != api.OK {
		return api.Span{}, e
	}
	return weighted(l, charges)
}

// weighted returns the sum of the spans, each times its weight.
func weighted(l []api.Span, weights []int) (api.Span, api.Errno) {
	scaled := make([]api.Span, len(l))
	for i, s := range l {
		var e api.Errno
		if scaled[i], e = span.Scale(s, weights[i]); e != api.OK {
			return api.Span{}, e
		}
	}
	return span.Sum(scaled)
}
