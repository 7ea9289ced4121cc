package hold

import (
	"facet/api"
	"facet/shape"
	"facet/span"
)

// maxCertificates is the greatest number of certificates of Narrow.
const maxCertificates = 16

func inRange(n, from, to int) bool {
	return from <= n && n <= to
}

func isNoCharge(n int) bool {
	return !inRange(n, 0, api.MaxCharge)
}

func isDepth(n int) bool {
	return inRange(n, 0, api.MaxPair)
}

// mayBeCenter reports whether Ball may be asked about a point.
func mayBeCenter(p api.Point) bool {
	for _, n := range [3]int{p.X, p.Y, p.Z} {
		if !inRange(n, -api.MaxPoint, api.MaxPoint) {
			return false
		}
	}
	return true
}

// checkDepth returns the error of a mesh, and then that of a depth.
func checkDepth(m api.Mesh, depth int) api.Errno {
	if e := shape.Validate(m); e != api.OK {
		return e
	}
	if !isDepth(depth) {
		return api.ErrArg
	}
	return api.OK
}

// checkCharged returns the errors of a mesh and its charges, and then that of a depth.
func checkCharged(m api.Mesh, charges []int, depth int) api.Errno {
	if e := ValidateCharges(m, charges); e != api.OK {
		return e
	}
	if !isDepth(depth) {
		return api.ErrArg
	}
	return api.OK
}

// checkCertificate returns the error of a mesh, and then those of a certificate that
// show before its bounds are found.
func checkCertificate(m api.Mesh, c api.Certificate) api.Errno {
	if e := shape.Validate(m); e != api.OK {
		return e
	}
	if !span.Valid(c.Span) || !isDepth(c.Depth) {
		return api.ErrArg
	}
	return ValidateCharges(m, c.Charges)
}
