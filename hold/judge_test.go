package hold_test

import (
	"fmt"
	"math"
	"slices"
	"testing"

	"facet/api"
	"facet/hold"
)

func cert(charges []int, depth int, s api.Span) api.Certificate {
	return api.Certificate{Charges: charges, Depth: depth, Span: s}
}

// widened moves the bounds of a certificate's span outward.
func widened(c api.Certificate, lo, hi int) api.Certificate {
	c.Span = sp(c.Span.Lo-lo, c.Span.Hi+hi)
	return c
}

func TestProve(t *testing.T) { // P7.6
	everyone(1, func(what string, m api.Mesh, charges []int, depth int) {
		s, e := referenceBounds(m, charges, depth)
		c, got := hold.Prove(m, charges, depth)
		expect(t, "P7.6 Prove "+what, got, e)
		if e != api.OK {
			expect(t, "R3 Prove "+what, fmt.Sprint(c), fmt.Sprint(api.Certificate{}))
			return
		}
		expect(t, "P7.6 Prove "+what, fmt.Sprint(c), fmt.Sprint(cert(charges, depth, s)))
		expect(t, "P7.6 Judge "+what, hold.Judge(m, c), api.OK)
	})
}

func TestProveKeepsNothing(t *testing.T) { // R5
	charges := []int{1, 2, 3, 4, 5, 6, 7, 8}
	c := must(hold.Prove(octa(1), charges, 0))
	charges[0] = 99
	expect(t, "R5 Prove", c.Charges[0], 1)
}

func TestJudge(t *testing.T) { // P7.6
	m, some := octa(1), []int{1, 2, 3, 4, 5, 6, 7, 8}
	zero, few := make([]int, 8), []int{1}
	all, turned := sp(0, api.MaxFix), sp(1, 0)
	c := must(hold.Prove(m, some, 1))
	for k, want := range []struct {
		c api.Certificate
		e api.Errno
	}{
		{c, api.OK},
		{cert(some, 1, all), api.OK}, // Example 3
		{cert(zero, 1, all), api.ErrZero},
		{cert(few, 1, all), api.ErrArg},
		{widened(c, 1, 0), api.OK},
		{widened(c, 0, 1), api.OK},
		{widened(c, -1, 0), api.ErrProof},
		{widened(c, 0, -1), api.ErrProof},
		{widened(c, 1, -1), api.ErrProof},
		{cert(some, 1, sp(-api.MaxFix, 0)), api.ErrProof},
		{cert(some, 1, sp(-api.MaxFix, api.MaxFix)), api.OK},
		{cert(some, 1, sp(-api.MaxFix-1, api.MaxFix)), api.ErrArg},
		{cert(some, 1, sp(0, api.MaxFix+1)), api.ErrArg},
		{cert(some, 1, sp(math.MinInt, math.MaxInt)), api.ErrArg},
		{cert(some, 1, turned), api.ErrArg},
		{cert(zero, 1, turned), api.ErrArg},
		{cert(zero, -1, all), api.ErrArg},
		{cert(zero, 3, all), api.ErrArg},
		{cert(some, 3, all), api.ErrArg},
		{cert(some, -1, all), api.ErrArg},
		{cert(some, math.MinInt, all), api.ErrArg},
		{cert(some, math.MaxInt, all), api.ErrArg},
		{cert(zero, 1, sp(0, 0)), api.ErrZero},
		{api.Certificate{}, api.ErrArg},
	} {
		expect(t, fmt.Sprint("P7.6 Judge ", k, " ", want.c), hold.Judge(m, want.c), want.e)
	}
	expect(t, "P7.6 of another mesh", hold.Judge(box(1, 1, 1), c), api.ErrArg)
	expect(t, "P7.6 of a larger one", hold.Judge(octa(2), c), api.ErrProof)
}

// claims are certificates of a mesh, with those of them that hold.
func claims(m api.Mesh) (all, holding []api.Certificate) {
	r := random()
	for depth := range api.MaxPair + 1 {
		for _, charges := range chargesOf(r, m, 1) {
			s, e := referenceBounds(m, charges, depth)
			if e != api.OK {
				continue
			}
			c := cert(charges, depth, s)
			wide := widened(c, 7, 9)
			wrong := []api.Certificate{widened(c, -1, 3), widened(c, 3, -1), cert(charges, 3, s), cert(charges[1:], depth, s), cert(charges, depth, sp(9, 8))}
			holding = append(holding, c, wide)
			all = append(append(append(all, wrong...), c), wide)
		}
	}
	return all, holding
}

// among reports whether a certificate is one of some.
func among(l []api.Certificate, c api.Certificate) bool {
	return slices.ContainsFunc(l, func(h api.Certificate) bool { return fmt.Sprint(h) == fmt.Sprint(c) })
}

// common is the span of the numbers that the spans of certificates enclose.
func common(l []api.Certificate) api.Span {
	lo, hi := -api.MaxFix, api.MaxFix
	for _, c := range l {
		lo, hi = max(lo, c.Span.Lo), min(hi, c.Span.Hi)
	}
	return sp(lo, hi)
}

func TestNarrow(t *testing.T) { // P7.7, S6
	r := random()
	for k, m := range []api.Mesh{octa(1), box(1, 2, 3), box(1, 20, 20), moved(octa(3), 61, -61, 61)} {
		all, holding := claims(m)
		for n := range 17 {
			var l, right []api.Certificate
			for range n {
				c := all[r.IntN(len(all))]
				l = append(l, c)
				if among(holding, c) {
					right = append(right, c)
				}
			}
			want := res(common(right), api.OK)
			if len(right) == 0 {
				want = refused[api.Span](api.ErrProof)
			}
			expect(t, fmt.Sprint("P7.7 Narrow ", k, " ", l), res(hold.Narrow(m, l)), want)
		}
		for _, c := range holding {
			expect(t, fmt.Sprint("P7.7 Narrow of one ", k), res(hold.Narrow(m, []api.Certificate{c})), res(c.Span, api.OK))
		}
		if s := common(holding); s.Lo > s.Hi {
			t.Error("S6", k, s)
		}
	}
}

func TestNarrowRefuses(t *testing.T) { // P7.7
	m := octa(1)
	c := must(hold.Prove(m, ones(m), 0))
	for _, n := range []int{16, 17, 40} {
		right, wrong := slices.Repeat([]api.Certificate{c}, n), make([]api.Certificate, n)
		want, none := res(c.Span, api.OK), refused[api.Span](api.ErrProof)
		if n > 16 {
			want = refused[api.Span](api.ErrLarge)
			none = want
		}
		expect(t, fmt.Sprint("P7.7 Narrow of ", n), res(hold.Narrow(m, right)), want)
		expect(t, fmt.Sprint("P7.7 Narrow of wrong ", n), res(hold.Narrow(m, wrong)), none)
	}
	expect(t, "P7.7 Narrow of none", res(hold.Narrow(m, nil)), refused[api.Span](api.ErrProof))
	flat := m
	flat.Points = nil
	expect(t, "P7.7 the mesh first", res(hold.Narrow(flat, slices.Repeat([]api.Certificate{c}, 17))), refused[api.Span](api.ErrNone))
	large := finer(octa(1))
	most := slices.Repeat([]int{api.MaxCharge}, len(large.Faces))
	expect(t, "P7.7 without Bounds", res(hold.Narrow(large, []api.Certificate{cert(most, 0, sp(0, api.MaxFix))})), refused[api.Span](api.ErrProof))
}

func TestDispute(t *testing.T) { // P7.7, S6
	r := random()
	seen := map[int]int{}
	for k, m := range []api.Mesh{octa(1), box(1, 2, 3)} {
		all, holding := claims(m)
		for range 60 {
			a, b := all[r.IntN(len(all))], all[r.IntN(len(all))]
			want := 3
			switch first, second := among(holding, a), among(holding, b); {
			case first && second:
				want = 0
				meets(t, "S6", a.Span, b.Span)
			case first:
				want = 1
			case second:
				want = 2
			}
			seen[want]++
			expect(t, fmt.Sprint("P7.7 Dispute ", k, a, b), res(hold.Dispute(m, a, b)), res(want, api.OK))
		}
	}
	for kind := range 4 {
		if seen[kind] < 5 {
			t.Error("P7.7 too few of a kind", seen)
		}
	}
}
