package moment

import (
	"facet/api"
	"facet/field"
)

// The bounds of valid moments, and of what the functions take beside them.
const (
	maxTotal   = 1 << 20
	maxDipole  = 1 << 30
	maxSecond  = 1 << 34
	maxRadius2 = 1 << 17
	maxBy      = 2 * api.MaxCoord
	maxTimes   = 2 * api.MaxCoord
	maxSeen    = api.MaxPoint + 2*api.MaxCoord
)

func inRange(n, from, to int) bool {
	return from <= n && n <= to
}

func within(n, limit int) bool {
	return inRange(n, -limit, limit)
}

// checkPanels returns the error of charged panels, and then that of a center.
func checkPanels(l []api.Charged, center api.Point) api.Errno {
	if e := field.ValidateCharged(l); e != api.OK {
		return e
	}
	if !vectorOf(center).within(api.MaxCoord) {
		return api.ErrArg
	}
	return api.OK
}

// mayStand reports whether a far field may be asked for at u and up to an order.
func mayStand(u api.Point, order int) bool {
	return vectorOf(u).within(maxSeen) && inRange(order, 0, api.MaxOrder)
}

// notLarge returns moments that are a result, or ErrLarge if they are not valid.
func notLarge(m api.Moments) (api.Moments, api.Errno) {
	if Validate(m) != api.OK {
		return api.Moments{}, api.ErrLarge
	}
	return m, api.OK
}
