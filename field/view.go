package field

import (
	"slices"
	"sort"

	"facet/api"
	"facet/shape"
	"facet/span"
)

// kernel is what a charge does at the distance root of n, in a grid that is
// scale times as fine: span.Inverse or span.Cube.
type kernel func(n, scale int) (api.Span, api.Errno)

// view is how some points see the parts of a panel, all in one grid.
type view struct {
	from  group
	scale int // how much finer the grid is
	of    kernel
}

// low returns what a part does at least. There is no error: squared distances in
// the finest grid are below 2^25, and the farthest corner is not at the point.
func (v view) low(part group) int {
	s, _ := v.of(far(part, v.from), v.scale)
	return s.Lo
}

// high returns what a part does at most, if the view doesn't touch it.
func (v view) high(part group) int {
	s, _ := v.of(near(part, v.from), v.scale)
	return s.Hi
}

// touches reports whether the near distance of a part is 0.
func (v view) touches(part group) bool {
	return near(part, v.from) == 0
}

// sum adds up the numbers of some items.
func sum[T any](items []T, number func(T) int) int {
	total := 0
	for _, item := range items {
		total += number(item)
	}
	return total
}

// average returns the mean of the low numbers of some items, rounded down, and
// that of the high ones, rounded up. None of them is below 0.
func average[T any](items []T, low, high func(T) int) api.Span {
	n := len(items)
	return api.Span{Lo: sum(items, low) / n, Hi: (sum(items, high) + n - 1) / n}
}

// meanFrom encloses the mean of a kernel over a panel, seen from x.
func meanFrom(p api.Panel, x api.Point, depth int, of kernel) (api.Span, api.Errno) {
	if e := checkSeen(p, x, depth); e != api.OK {
		return api.Span{}, e
	}
	scale := 1 << depth
	v := view{from: groupOf(times(scale, x)), scale: scale, of: of}
	l := partGroups(p, depth)
	if slices.ContainsFunc(l, v.touches) {
		return api.Span{}, api.ErrNear
	}
	return average(l, v.low, v.high), api.OK
}

// source is a panel whose parts are seen from the corners of others.
type source struct {
	parts      []group
	scale, rim int
}

func sourceOf(p api.Panel, depth int) (source, api.Errno) {
	k, e := rim(p, depth)
	if e != api.OK {
		return source{}, e
	}
	return source{parts: partGroups(p, depth), scale: 1 << depth, rim: k}, api.OK
}

// seenFrom encloses the mean of 1/r over a panel, seen from any point of the
// triangle that has the corners from, in the finer grid.
func (s source) seenFrom(from group) api.Span {
	v := view{from: from, scale: s.scale, of: span.Inverse}
	return average(s.parts, v.low, func(part group) int {
		if v.touches(part) {
			return s.rim
		}
		return min(s.rim, v.high(part))
	})
}

// rimTop/rimBottom is above 8 pi.
const (
	rimTop    = 3217
	rimBottom = 128
)

// beyondRim is above each rim: the area of a panel is at least a half.
const beyondRim = 1 << 26

// rim returns what the mean of 1/r over a part of a panel is nowhere above.
func rim(p api.Panel, depth int) (int, api.Errno) {
	normal, e := shape.Normal(p)
	if e != api.OK {
		return 0, e
	}
	length, e := span.Length(scalar(normal, normal))
	if e != api.OK {
		return 0, e
	}
	s := length.Lo / api.One
	scale := 1 << depth
	top, bottom := api.One*api.One*scale*scale*rimTop, rimBottom*s
	// k*k*bottom may not fit into an int. So k*k is compared with the quotient,
	// rounded up, which is the same for integers.
	least := (top + bottom - 1) / bottom
	return sort.Search(beyondRim, func(k int) bool { return k*k >= least }), api.OK
}
