package moment_test

import (
	"fmt"
	"math"
	"slices"
	"testing"

	"facet/api"
	"facet/field"
	"facet/moment"
)

// small is the panel of DOC.md's example 4.
var small = tri(pt(0, 0, 0), pt(3, 0, 0), pt(0, 3, 0))

func many(c api.Charged, n int) []api.Charged { return slices.Repeat([]api.Charged{c}, n) }

func TestOf(t *testing.T) { // P4.1
	r := random()
	for k := range 500 {
		size := []int{1, 3, 9, 64}[k%4]
		l := some(r, r.IntN(8), size)
		if k == 0 {
			l = some(r, 96, size)
		}
		center := somewhere(r, size)
		what := fmt.Sprint(" of ", l, " about ", center)
		expect(t, "P4.1 Of"+what, res(moment.Of(l, center)), res(referenceOf(l, center), api.OK))
		expect(t, "P4.1 Radius2"+what, res(moment.Radius2(l, center)), res(referenceRadius2(l, center), api.OK))
	}
}

func TestOfExamples(t *testing.T) { // P4.1
	l := []api.Charged{charged(small, 2)}
	expect(t, "P4.1 example 1", res(moment.Of(l, pt(0, 0, 0))),
		res(api.Moments{Charge: 2, Total: 2, Dipole: pt(6, 6, 0), Second: [6]int{36, 18, 0, 36, 0, 0}}, api.OK))
	expect(t, "P4.1 example 1, about 1 1 0", res(moment.Of(l, pt(1, 1, 0))),
		res(api.Moments{Charge: 2, Total: 2, Second: [6]int{12, -6, 0, 12, 0, 0}}, api.OK))
	expect(t, "P4.1 Radius2", res(moment.Radius2(l, pt(0, 0, 0))), res(9, api.OK))
	expect(t, "P4.1 Radius2", res(moment.Radius2(l, pt(1, 1, 0))), res(5, api.OK))
	expect(t, "P4.1 Radius2", res(moment.Radius2(l, pt(1, 1, -7))), res(54, api.OK))

	// One element each.
	upright := tri(pt(1, 2, 4), pt(0, 0, 0), pt(0, 0, 1))
	expect(t, "P4.1 elements", res(moment.Of(many(charged(upright, 1), 1), pt(0, 0, 0))),
		res(api.Moments{Charge: 1, Total: 1, Dipole: pt(1, 2, 5), Second: [6]int{2, 4, 9, 8, 18, 42}}, api.OK))

	for _, none := range [][]api.Charged{nil, {}} {
		for _, center := range []api.Point{pt(0, 0, 0), pt(64, -64, 64)} {
			expect(t, "P4.1 Of none", res(moment.Of(none, center)), res(api.Moments{}, api.OK))
			expect(t, "P4.1 Radius2 of none", res(moment.Radius2(none, center)), res(0, api.OK))
		}
	}
	// The charges count, also where they are opposite or 0.
	both := []api.Charged{charged(small, 5), charged(small, -5)}
	expect(t, "P4.1 opposite charges", res(moment.Of(both, pt(0, 0, 0))), res(api.Moments{Total: 10}, api.OK))
	expect(t, "P4.1 the charge 0", res(moment.Of(many(charged(small, 0), 3), pt(0, 0, 0))), res(api.Moments{}, api.OK))
	expect(t, "P4.1 Radius2 with the charge 0", res(moment.Radius2(many(charged(small, 0), 3), pt(0, 0, 0))), res(9, api.OK))

	// As much as may be: it stays valid.
	large := tri(pt(64, 64, 64), pt(64, 64, 63), pt(64, 63, 64))
	full := many(charged(large, -100), 96)
	m := must(moment.Of(full, pt(-64, -64, -64)))
	expect(t, "P4.1 as much as may be", m, referenceOf(full, pt(-64, -64, -64)))
	expect(t, "P4.1 as much as may be", moment.Validate(m), api.OK)
	expect(t, "P4.1 Radius2, as much as may be", res(moment.Radius2(full, pt(-64, -64, -64))), res(3*128*128, api.OK))
}

func TestOfErrors(t *testing.T) { // P4.1, R1, R3, R6
	flat, out := api.Panel{}, tri(pt(65, 0, 0), pt(0, 1, 0), pt(0, 0, 1))
	centers := []api.Point{pt(64, 64, 64), pt(-64, -64, -64)}
	var wrong []api.Point
	for _, n := range []int{65, -65, math.MaxInt, math.MinInt} {
		wrong = append(wrong, pt(n, 0, 0), pt(0, n, 0), pt(0, 0, n))
	}
	for _, l := range [][]api.Charged{
		nil, many(charged(small, 100), 96), many(charged(small, -100), 1),
		many(charged(small, 1), 97), many(charged(flat, 1), 97), many(charged(flat, 1), 1), many(charged(out, 1), 1),
		many(charged(small, 101), 1), many(charged(small, math.MinInt), 1), {charged(small, 1), charged(flat, 101)},
		{charged(small, 101), charged(flat, 1)}, {charged(flat, 1), charged(small, 101)},
	} {
		want := field.ValidateCharged(l)
		for _, center := range centers {
			m, e := moment.Of(l, center)
			expect(t, "P4.1 Of, error", e, want)
			expect(t, "P4.1 Of, R3", e == api.OK || m == api.Moments{}, true)
			n, e := moment.Radius2(l, center)
			expect(t, "P4.1 Radius2, error", e, want)
			expect(t, "P4.1 Radius2, R3", e == api.OK || n == 0, true)
		}
		if want == api.OK {
			want = api.ErrArg
		}
		for _, center := range wrong {
			expect(t, "P4.1 Of, a wrong center", res(moment.Of(l, center)), refused[api.Moments](want))
			expect(t, "P4.1 Radius2, a wrong center", res(moment.Radius2(l, center)), refused[int](want))
		}
	}
}

func TestArgumentsStay(t *testing.T) { // R5
	l := some(random(), 5, 9)
	before := slices.Clone(l)
	moment.Of(l, pt(1, 2, 3))
	moment.Radius2(l, pt(1, 2, 3))
	if !slices.Equal(l, before) {
		t.Error("R5: an argument was changed")
	}
}
