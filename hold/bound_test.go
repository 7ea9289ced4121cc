package hold_test

import (
	"fmt"
	"math"
	"slices"
	"testing"

	"facet/api"
	"facet/field"
	"facet/hold"
	"facet/shape"
	"facet/span"
)

func TestValidateCharges(t *testing.T) { // P7.1
	m := octa(1)
	for _, c := range []struct {
		charges []int
		want    api.Errno
	}{
		{[]int{1, 1, 1, 1, 1, 1, 1, 1}, api.OK},
		{[]int{0, 0, 0, 0, 0, 0, 0, 1}, api.OK},
		{[]int{0, 100, 0, 0, 0, 0, 0, 100}, api.OK},
		{[]int{0, 0, 0, 0, 0, 0, 0, 0}, api.ErrZero},
		{[]int{0, 0, 0, 0, 0, 0, 0}, api.ErrArg},
		{[]int{1, 1, 1, 1, 1, 1, 1}, api.ErrArg},
		{[]int{1, 1, 1, 1, 1, 1, 1, 1, 1}, api.ErrArg},
		{nil, api.ErrArg},
		{[]int{-1, 1, 1, 1, 1, 1, 1, 1}, api.ErrArg},
		{[]int{1, 1, 1, 1, 1, 1, 1, 101}, api.ErrArg},
		{[]int{0, 0, 0, 0, -1, 0, 0, 1}, api.ErrArg},
		{[]int{0, 0, 0, 0, math.MinInt, 0, 0, math.MinInt}, api.ErrArg},
		{[]int{math.MaxInt, math.MaxInt, 1, 1, 0, 0, 0, 0}, api.ErrArg},
	} {
		expect(t, fmt.Sprint("P7.1 ", c.charges), hold.ValidateCharges(m, c.charges), c.want)
	}
}

func TestPotentials(t *testing.T) { // P7.2
	everyone(1, func(what string, m api.Mesh, charges []int, depth int) {
		ref := referenceOf(m, charges, depth)
		var want []api.Span
		for j := range m.Faces {
			want = append(want, sp(int(ref.potentialLo[j].Int64()), int(ref.potentialHi[j].Int64())))
		}
		got, e := hold.Potentials(m, charges, depth)
		if e != api.OK || !slices.Equal(got, want) {
			t.Error("P7.2 Potentials", what, got, e, "want", want)
		}
	})
	m, l := octa(1), []int{0, 0, 3, 0, 0, 0, 0, 0}
	got := must(hold.Potentials(m, l, 1))
	for j := range m.Faces { // one face alone
		expect(t, "P7.2 from one face", got[j], must(span.Scale(must(field.Between(panel(m, 2), panel(m, j), 1)), 3)))
	}
}

func TestEnergy(t *testing.T) { // P7.2
	seen := map[api.Errno]int{}
	everyone(3, func(what string, m api.Mesh, charges []int, depth int) {
		want := res(referenceOf(m, charges, depth).energy())
		seen[want.e]++
		expect(t, "P7.2 Energy "+what, res(hold.Energy(m, charges, depth)), want)
	})
	if seen[api.OK] < 100 || seen[api.ErrLarge] < 20 {
		t.Error("P7.2 too few of a kind", seen)
	}
	m, l := octa(1), []int{0, 0, 3, 0, 0, 0, 0, 0}
	expect(t, "P7.2 of one face", must(hold.Energy(m, l, 2)), must(span.Scale(must(field.Mutual(panel(m, 2), panel(m, 2), 2)), 9)))
}

// nextToLimit are charges of a mesh whose energy is just within MaxFix: no face can
// carry more.
func nextToLimit(m api.Mesh, depth int) []int {
	charges := slices.Repeat([]int{1}, len(m.Faces))
	for i := range charges {
		for charges[i] < api.MaxCharge {
			charges[i]++
			if _, e := referenceOf(m, charges, depth).energy(); e != api.OK {
				charges[i]--
				break
			}
		}
	}
	return charges
}

func TestLargeEnergy(t *testing.T) { // P7.2 to P7.6: where the energy passes MaxFix, but no potential does
	m := finer(octa(1))
	charges := nextToLimit(m, 0)
	s := must(hold.Energy(m, charges, 0))
	if s.Hi > api.MaxFix || s.Hi < api.MaxFix/10*9 {
		t.Error("P7.2", s, "is not next to the limit")
	}
	must(hold.Thomson(m, charges, 0))
	must(hold.Bounds(m, charges, 0))
	lowest := slices.Index(charges, slices.Min(charges))
	charges[lowest]++
	want := api.ErrLarge
	_, e := hold.Energy(m, charges, 0)
	expect(t, "P7.2 Energy", e, want)
	_, e = hold.Potentials(m, charges, 0)
	expect(t, "P7.2 Potentials", e, api.OK)
	_, e = hold.Below(m, charges, 0)
	expect(t, "P7.3 Below", e, api.OK)
	_, e = hold.Above(m, charges, 0)
	expect(t, "P7.3 Above", e, api.OK)
	_, e = hold.Thomson(m, charges, 0)
	expect(t, "P7.3 Thomson", e, want)
	_, e = hold.Bounds(m, charges, 0)
	expect(t, "P7.4 Bounds", e, want)
	_, e = hold.Prove(m, charges, 0)
	expect(t, "P7.6 Prove", e, want)
	expect(t, "P7.6 Judge", hold.Judge(m, api.Certificate{Charges: charges, Span: sp(0, api.MaxFix)}), want)
}

func TestOneSided(t *testing.T) { // P7.3
	everyone(3, func(what string, m api.Mesh, charges []int, depth int) {
		ref := referenceOf(m, charges, depth)
		expect(t, "P7.3 Below "+what, res(hold.Below(m, charges, depth)), res(ref.below()))
		expect(t, "P7.3 Above "+what, res(hold.Above(m, charges, depth)), res(ref.above()))
		expect(t, "P7.3 Thomson "+what, res(hold.Thomson(m, charges, depth)), res(ref.thomson()))
	})
}

func TestBall(t *testing.T) { // P7.3
	expect(t, "P7.3 Example 1", must(hold.Ball(octa(1), pt(0, 0, 0))), one)
	expect(t, "P7.3 of a corner", must(hold.Ball(box(2, 3, 6), pt(2, 3, 6))), 7*one)
	expect(t, "P7.3 rounded up", must(hold.Ball(box(1, 1, 1), pt(0, 0, 0))), 1816187) // the root of 3
	r := random()
	for k, m := range small(r) {
		for _, center := range []api.Point{pt(0, 0, 0), pt(256, 256, 256), pt(-256, 256, -256), pt(1, -2, 3), pt(r.IntN(513)-256, r.IntN(513)-256, r.IntN(513)-256)} {
			expect(t, fmt.Sprint("P7.3 Ball ", k, center), res(hold.Ball(m, center)), res(referenceBall(m, center), api.OK))
		}
	}
	for _, n := range []int{257, -257, math.MaxInt, math.MinInt} {
		for _, center := range []api.Point{pt(n, 0, 0), pt(0, n, 0), pt(0, 0, n)} {
			expect(t, fmt.Sprint("P7.3 Ball ", center), res(hold.Ball(octa(1), center)), refused[int](api.ErrArg))
		}
	}
}

func TestBounds(t *testing.T) { // P7.4
	byAbove, byBall := 0, 0
	everyone(3, func(what string, m api.Mesh, charges []int, depth int) {
		want := res(referenceBounds(m, charges, depth))
		expect(t, "P7.4 Bounds "+what, res(hold.Bounds(m, charges, depth)), want)
		if want.e == api.OK && want.v.Hi == must(hold.Above(m, charges, depth)) {
			byAbove++
		} else if want.e == api.OK {
			byBall++
		}
	})
	if byAbove < 20 || byBall < 20 {
		t.Error("P7.4 too few of a kind", byAbove, byBall)
	}
}

func TestEven(t *testing.T) { // P7.4
	for k, m := range small(random()) {
		for depth := range api.MaxPair + 1 {
			expect(t, fmt.Sprint("P7.4 Even ", k, " ", depth), res(hold.Even(m, depth)), res(referenceBounds(m, ones(m), depth)))
		}
	}
	m := largest()
	expect(t, "P7.4 Even of many faces", res(hold.Even(m, 0)), res(referenceBounds(m, ones(m), 0)))
}

// meets expects that two spans have a common number.
func meets(t *testing.T, what string, a, b api.Span) {
	t.Helper()
	if a.Lo > b.Hi || b.Lo > a.Hi {
		t.Error(what, a, "and", b, "do not meet")
	}
}

func TestBoundsMeet(t *testing.T) { // P7.4, S1
	r := random()
	for k, m := range []api.Mesh{octa(1), octa(5), tetra(pt(-3, -3, -3), pt(1, 0, 0), pt(0, 4, 0), pt(2, 2, 9)), someTetra(r, 5), someTetra(r, 20), box(1, 20, 20)} {
		what := fmt.Sprint("P7.4 mesh ", k)
		s := capacity(t, what, m, r)
		meets(t, what+" moved", s, capacity(t, what, moved(m, -7, 20, 3), r))
		meets(t, what+" turned", s, capacity(t, what, must(shape.Turn(m)), r))
		meets(t, what+" mirrored", s, capacity(t, what, must(shape.Mirror(m)), r))
		meets(t, what+" three times as large", must(span.Scale(s, 3)), capacity(t, what, scaled(m, 3), r))
		meets(t, what+" finer", must(span.Scale(s, 2)), capacity(t, what, finer(m), r))
	}
}

func TestWork(t *testing.T) { // P7.8
	expect(t, "P7.8 Example 2", must(hold.Work(octa(1), 1)), 1280)
	for depth, want := range []int{2, 20, 272} {
		expect(t, fmt.Sprint("P7.8 ", depth), must(hold.Work(box(1, 1, 1), depth)), 144*want)
		expect(t, fmt.Sprint("P7.8 ", depth), must(hold.Work(largest(), depth)), 96*96*want)
	}
}
