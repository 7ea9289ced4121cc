package sound

import (
	"facet/api"
	"facet/span"
)

// shell is where the sound of a tick comes from: from points whose squared distance
// from the center is above inner and at most outer, in a grid that is scale times as
// fine.
type shell struct {
	center              api.Point
	inner, outer, scale int
}

// shell returns where the sound comes from that is heard some ticks after its pulse.
func (m microphone) shell(ticks int) shell {
	scale := 1 << m.depth
	step := scale * m.speed
	return shell{
		center: times(scale, m.at),
		inner:  square(step * (ticks - 1)),
		outer:  square(step * ticks),
		scale:  scale,
	}
}

// spans goes through the shell and returns what each part of a panel gives, in order.
func (s shell) spans(parts []api.Panel) ([]api.Span, api.Errno) {
	var l []api.Span
	for i := range len(parts) {
		given, e := s.given(parts[i])
		if e != api.OK {
			return nil, e
		}
		l = append(l, given)
	}
	return l, api.OK
}

// given encloses what a part gives: the mean of 1/r over it, where r counts only in
// the shell.
func (s shell) given(part api.Panel) (api.Span, api.Errno) {
	n, f := near(part, s.center), far(part, s.center)
	if f <= s.inner || n > s.outer {
		return api.Span{}, api.OK
	}
	nearest := max(n, s.inner)
	if nearest == 0 {
		return api.Span{}, api.ErrNear
	}
	// There is no error: both squared distances are at most f, which is below 2^25.
	loudest, _ := span.Inverse(nearest, s.scale)
	if n <= s.inner || f > s.outer {
		// The part may lie in the shell only partly, or not at all.
		return api.Span{Hi: loudest.Hi}, api.OK
	}
	softest, _ := span.Inverse(f, s.scale)
	return api.Span{Lo: softest.Lo, Hi: loudest.Hi}, api.OK
}
