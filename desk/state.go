package desk

import (
	"slices"

	"facet/api"
)

// state is what a desk has at one moment. What it refers to is never changed: an order
// makes a new state, so one that is refused leaves no trace, and a state that was
// looked up may be read while the desk goes on.
type state struct {
	budget int
	day    int
	left   int
	spent  int
	shapes []Shape
	orders []string
}

// after returns the state after an order, or a refused error.
func (s state) after(text string) (state, error) {
	o, err := parse(text)
	if err != nil {
		return state{}, err
	}
	if len(s.orders) == api.MaxLines {
		return refuse(api.ErrLarge)
	}
	next, err := s.obey(o)
	if err != nil {
		return state{}, err
	}
	next.orders = append(slices.Clip(s.orders), text)
	return next, nil
}

// obey returns the state after an order that is not written down yet, or a refused
// error.
func (s state) obey(o order) (state, error) {
	switch o.kind {
	case blockOrder, octaOrder, copyOrder:
		return s.withNew(o)
	case evenOrder, proveOrder, improveOrder:
		return s.withProof(o)
	case dayOrder:
		return s.nextDay(), nil
	}
	return s.withChange(o)
}

// nextDay returns the state on the next day (P9.4).
func (s state) nextDay() state {
	s.day++
	s.left = s.budget
	return s
}

// find returns the place of the shape with a name, or -1.
func (s state) find(name string) int {
	return slices.IndexFunc(s.shapes, func(shape Shape) bool { return shape.Name == name })
}

func (s state) lacks(name string) bool {
	return s.find(name) < 0
}

// with returns the state with another shape at a place.
func (s state) with(at int, shape Shape) state {
	s.shapes = slices.Clone(s.shapes)
	s.shapes[at] = shape
	return s
}

// without returns the state without the shape at a place.
func (s state) without(at int) state {
	s.shapes = slices.Delete(slices.Clone(s.shapes), at, at+1)
	return s
}

// cloned returns a shape in new memory.
func cloned(s Shape) Shape {
	s.Mesh.Points = slices.Clone(s.Mesh.Points)
	s.Mesh.Faces = slices.Clone(s.Mesh.Faces)
	s.Proofs = slices.Clone(s.Proofs)
	for i, c := range s.Proofs {
		s.Proofs[i].Charges = slices.Clone(c.Charges)
	}
	return s
}
