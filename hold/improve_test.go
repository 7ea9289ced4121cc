package hold_test

import (
	"fmt"
	"slices"
	"testing"

	"facet/api"
	"facet/hold"
)

func width(s api.Span) int { return s.Hi - s.Lo }

// improved expects charges that are no worse than even ones, and returns by how much
// their bounds are narrower.
func improved(t *testing.T, what string, m api.Mesh, depth int) int {
	t.Helper()
	charges, e := hold.Improve(m, depth)
	expect(t, what, e, api.OK)
	expect(t, what, hold.ValidateCharges(m, charges), api.OK)
	again, _ := hold.Improve(m, depth)
	if !slices.Equal(charges, again) {
		t.Error("R11", what, charges, again)
	}
	even, s := res(hold.Even(m, depth)), res(hold.Bounds(m, charges, depth))
	if even.e != api.OK || s.e != api.OK || width(s.v) > width(even.v) {
		t.Error(what, charges, "have", s, "and even ones", even)
	}
	meets(t, what, s.v, even.v)
	return width(even.v) - width(s.v)
}

func TestImprove(t *testing.T) { // P7.5
	for k, m := range small(random()) {
		for depth := range api.MaxPair + 1 {
			improved(t, fmt.Sprint("P7.5 mesh ", k, " depth ", depth), m, depth)
		}
	}
}

func TestImproveHelps(t *testing.T) { // P7.5: where charges want to be uneven, they become so
	for k, m := range []api.Mesh{finer(octa(1)), box(1, 20, 20), finer(box(1, 20, 20)), box(1, 1, 20)} {
		for depth := range api.MaxPair + 1 {
			what := fmt.Sprint("P7.5 mesh ", k, " depth ", depth)
			if improved(t, what, m, depth) <= 0 {
				t.Error(what, "is as wide as with even charges")
			}
		}
	}
}

func TestImproveMany(t *testing.T) { // P7.5: a search that does not come to its end by itself
	improved(t, "P7.5 the largest mesh", largest(), 0)
}
