package sound

import (
	"facet/api"
	"facet/field"
)

// longestTrace is the greatest difference of the last and the first tick of Trace.
const longestTrace = 200

func inRange(n, from, to int) bool {
	return from <= n && n <= to
}

func isSpeed(n int) bool {
	return inRange(n, 1, api.MaxSpeed)
}

// mayListen reports whether a point may be asked about.
func mayListen(x api.Point) bool {
	for _, n := range [3]int{x.X, x.Y, x.Z} {
		if !inRange(n, -api.MaxPoint, api.MaxPoint) {
			return false
		}
	}
	return true
}

// charged returns the panel of a pulse, with its power as the charge.
func charged(p api.Pulse) api.Charged {
	return api.Charged{Panel: p.Panel, Charge: p.Power}
}

// checkPulse returns the error of a pulse. A power may be what a charge may be.
func checkPulse(p api.Pulse) api.Errno {
	if e := field.ValidateCharged([]api.Charged{charged(p)}); e != api.OK {
		return e
	}
	if !inRange(p.At, 0, api.MaxTick) {
		return api.ErrArg
	}
	return api.OK
}

// check returns the error of pulses, and then those of the microphone and of the
// ticks in which it listens.
func (m microphone) check(l []api.Pulse, ticks ...int) api.Errno {
	if e := ValidatePulses(l); e != api.OK {
		return e
	}
	if !mayListen(m.at) || !isSpeed(m.speed) || !inRange(m.depth, 0, api.MaxDepth) {
		return api.ErrArg
	}
	for _, tick := range ticks {
		if !inRange(tick, 0, 2*api.MaxTick) {
			return api.ErrArg
		}
	}
	return api.OK
}
