package desk

import (
	"slices"

	"facet/api"
	"facet/hold"
	"facet/span"
)

const (
	// maxProofs is the greatest number of proofs of a shape.
	maxProofs = 16
	// improveFactor is how many times the work of a proof it takes to improve one.
	improveFactor = 3
)

// withProof returns the state with one more proof of a shape, or a refused error
// (P9.3).
func (s state) withProof(o order) (state, error) {
	at := s.find(o.names[0])
	if at < 0 {
		return refuse(api.ErrNone)
	}
	shape := s.shapes[at]
	work, e := workOf(shape.Mesh, o)
	if e != api.OK {
		return refuse(e)
	}
	if work > s.left {
		return refuse(api.ErrBudget)
	}
	if len(shape.Proofs) == maxProofs {
		return refuse(api.ErrLarge)
	}
	c, e := proof(shape.Mesh, o)
	if e != api.OK {
		return refuse(e)
	}
	shape.Proofs = append(slices.Clip(shape.Proofs), c)
	shape.Span = enclosed(shape.Proofs)
	s.left -= work
	s.spent += work
	return s.with(at, shape), nil
}

// workOf returns the number of evaluations that an order takes, or the error of its
// depth.
func workOf(m api.Mesh, o order) (int, api.Errno) {
	work, e := hold.Work(m, o.numbers[0])
	if o.kind == improveOrder {
		work *= improveFactor
	}
	return work, e
}

// proof returns the certificate that an order asks for.
func proof(m api.Mesh, o order) (api.Certificate, api.Errno) {
	l, e := charges(m, o)
	if e != api.OK {
		return api.Certificate{}, e
	}
	return hold.Prove(m, l, o.numbers[0])
}

// charges returns those by which an order proves something.
func charges(m api.Mesh, o order) ([]int, api.Errno) {
	switch o.kind {
	case proveOrder:
		return o.numbers[1:], api.OK
	case improveOrder:
		return hold.Improve(m, o.numbers[0])
	}
	return slices.Repeat([]int{1}, len(m.Faces)), api.OK
}

// enclosed returns the span of what the spans of all proofs enclose, or 0, 0 if there
// is none.
func enclosed(proofs []api.Certificate) api.Span {
	if len(proofs) == 0 {
		return api.Span{}
	}
	all := proofs[0].Span
	for _, c := range proofs[1:] {
		// Both enclose the capacity (S6), so they have a common number.
		all, _, _ = span.Meet(all, c.Span)
	}
	return all
}
