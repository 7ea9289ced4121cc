package desk

import (
	"slices"

	"facet/api"
	"facet/shape"
)

// withNew returns the state with a new shape, or a refused error (P9.1).
func (s state) withNew(o order) (state, error) {
	name := o.names[0]
	if !isName(name) || !s.lacks(name) {
		return refuse(api.ErrName)
	}
	if len(s.shapes) == api.MaxShapes {
		return refuse(api.ErrLarge)
	}
	m, e := s.source(o)
	if e != api.OK {
		return refuse(e)
	}
	s.shapes = append(slices.Clip(s.shapes), Shape{Name: name, Mesh: m})
	return s, nil
}

// source returns the mesh that a new shape has.
func (s state) source(o order) (api.Mesh, api.Errno) {
	switch o.kind {
	case blockOrder:
		return shape.Block(o.numbers[0], o.numbers[1], o.numbers[2])
	case octaOrder:
		return shape.Octa(o.numbers[0])
	}
	at := s.find(o.names[1])
	if at < 0 {
		return api.Mesh{}, api.ErrNone
	}
	return s.shapes[at].Mesh, api.OK
}

// withChange returns the state with a shape whose mesh is changed, or a refused error
// (P9.2).
func (s state) withChange(o order) (state, error) {
	if slices.ContainsFunc(o.names, s.lacks) {
		return refuse(api.ErrNone)
	}
	if o.kind == uniteOrder {
		return s.united(s.find(o.names[0]), s.find(o.names[1]))
	}
	at := s.find(o.names[0])
	m, e := changed(s.shapes[at].Mesh, o)
	if e != api.OK {
		return refuse(e)
	}
	return s.with(at, Shape{Name: o.names[0], Mesh: m}), nil
}

// changed returns the mesh that an order makes of another one.
func changed(m api.Mesh, o order) (api.Mesh, api.Errno) {
	switch o.kind {
	case moveOrder:
		return shape.Move(m, api.Point{X: o.numbers[0], Y: o.numbers[1], Z: o.numbers[2]})
	case scaleOrder:
		return shape.Scale(m, o.numbers[0])
	case turnOrder:
		return shape.Turn(m)
	case mirrorOrder:
		return shape.Mirror(m)
	}
	return shape.Finer(m)
}

// united returns the state in which the first shape has the second one as a part, and
// the second one is no more, or a refused error (P9.2).
func (s state) united(first, second int) (state, error) {
	if first == second {
		return refuse(api.ErrArg)
	}
	m, e := shape.Unite(s.shapes[first].Mesh, s.shapes[second].Mesh)
	if e != api.OK {
		return refuse(e)
	}
	return s.with(first, Shape{Name: s.shapes[first].Name, Mesh: m}).without(second), nil
}
