package sound

import (
	"cmp"

	"facet/api"
	"facet/field"
	"facet/span"
)

// microphone is a point that sound reaches at a speed. Panels that it hears are cut
// at a depth.
type microphone struct {
	at           api.Point
	speed, depth int
}

// first returns the tick before which nothing of a pulse is heard.
func (m microphone) first(p api.Pulse) int {
	return p.At + ticksFor(near(p.Panel, m.at), m.speed)
}

// last returns the tick after which nothing of a pulse is heard.
func (m microphone) last(p api.Pulse) int {
	return p.At + ticksFor(far(p.Panel, m.at), m.speed)
}

// ticksFor returns how many ticks sound needs for the root of n.
func ticksFor(n, speed int) int {
	t := 0
	for square(speed*t) < n {
		t++
	}
	return t
}

// heard encloses what is heard of a pulse in a tick.
func (m microphone) heard(p api.Pulse, tick int) (api.Span, api.Errno) {
	if tick <= p.At {
		return api.Span{}, api.OK
	}
	parts, e := field.Parts(p.Panel, m.depth)
	if e != api.OK {
		return api.Span{}, e
	}
	spans, e := m.shell(tick - p.At).spans(parts)
	if e != api.OK {
		return api.Span{}, e
	}
	mean, e := span.Mean(spans)
	if e != api.OK {
		return api.Span{}, e
	}
	return span.Scale(mean, p.Power)
}

// scene encloses what is heard of all pulses in a tick.
func (m microphone) scene(l []api.Pulse, tick int) (api.Span, api.Errno) {
	var all []api.Span
	for _, p := range l {
		s, e := m.heard(p, tick)
		if e != api.OK {
			return api.Span{}, e
		}
		all = append(all, s)
	}
	return span.Sum(all)
}

// arrival is when the pulse with a number is heard at the earliest and the latest.
type arrival struct {
	first, last, number int
}

func (a arrival) compare(b arrival) int {
	return cmp.Or(cmp.Compare(a.first, b.first), cmp.Compare(a.last, b.last), cmp.Compare(a.number, b.number))
}
