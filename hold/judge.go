package hold

import (
	"facet/api"
	"facet/span"
)

// finding is what a judge found about a certificate: proven, unproven or refused.
type finding interface {
	holds() bool
}

// proven is what a certificate is that holds.
type proven struct{}

// unproven is what a certificate is whose span does not enclose its bounds.
type unproven struct{}

// refused is what a certificate is that has no bounds.
type refused struct{ reason api.Errno }

func (proven) holds() bool { return true }

func (unproven) holds() bool { return false }

func (refused) holds() bool { return false }

// judge examines certificates of one mesh. That the faces see each other is most of
// the work, so it is done only once for a depth.
type judge struct {
	m      api.Mesh
	bodies map[int]body
}

func newJudge(m api.Mesh) judge {
	return judge{m, map[int]body{}}
}

// at returns the body of the mesh at a depth.
func (j judge) at(depth int) (body, api.Errno) {
	if b, ok := j.bodies[depth]; ok {
		return b, api.OK
	}
	b, e := bodyOf(j.m, depth)
	if e != api.OK {
		return body{}, e
	}
	j.bodies[depth] = b
	return b, api.OK
}

func (j judge) examine(c api.Certificate) finding {
	if e := checkCertificate(j.m, c); e != api.OK {
		return refused{e}
	}
	b, e := j.at(c.Depth)
	if e != api.OK {
		return refused{e}
	}
	s, e := b.bounds(c.Charges)
	if e != api.OK {
		return refused{e}
	}
	if ok, e := span.Within(s, c.Span); !ok || e != api.OK {
		return unproven{}
	}
	return proven{}
}

// narrow returns the numbers that the spans of all certificates that hold enclose.
func (j judge) narrow(l []api.Certificate) (api.Span, api.Errno) {
	common, e := api.Span{Lo: -api.MaxFix, Hi: api.MaxFix}, api.ErrProof
	for _, c := range l {
		if j.examine(c).holds() {
			// They meet: each span encloses the capacity.
			common, _, e = span.Meet(common, c.Span)
		}
	}
	if e != api.OK {
		return api.Span{}, e
	}
	return common, api.OK
}
