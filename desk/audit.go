package desk

import (
	"slices"

	"facet/api"
	"facet/hold"
)

// holds reports whether all proofs hold, and the notebook makes the same state again.
// The judge is asked though Replay proves the same again: an audit trusts no layer
// alone. Whether the notebook is whole is what Replay asks first.
func (s state) holds() bool {
	if !allOf(s.shapes, isProved) {
		return false
	}
	again, _, e := Replay(s.budget, write(s.orders))
	return e == api.OK && again.look().equals(s)
}

// isProved reports whether all proofs of a shape hold, and its span is theirs.
func isProved(s Shape) bool {
	return s.Span == enclosed(s.Proofs) && allOf(s.Proofs, func(c api.Certificate) bool {
		return hold.Judge(s.Mesh, c) == api.OK
	})
}

func allOf[T any](l []T, holds func(v T) bool) bool {
	return !slices.ContainsFunc(l, func(v T) bool { return !holds(v) })
}

// equals reports whether two states have equal shapes and numbers.
func (s state) equals(other state) bool {
	return s.day == other.day && s.left == other.left && s.spent == other.spent &&
		slices.EqualFunc(s.shapes, other.shapes, sameShape)
}

func sameShape(a, b Shape) bool {
	return a.Name == b.Name && a.Span == b.Span &&
		slices.Equal(a.Mesh.Points, b.Mesh.Points) && slices.Equal(a.Mesh.Faces, b.Mesh.Faces) &&
		slices.EqualFunc(a.Proofs, b.Proofs, sameProof)
}

func sameProof(a, b api.Certificate) bool {
	return a.Depth == b.Depth && a.Span == b.Span && slices.Equal(a.Charges, b.Charges)
}
