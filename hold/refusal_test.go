package hold_test

import (
	"fmt"
	"math"
	"reflect"
	"slices"
	"testing"

	"facet/api"
	"facet/hold"
	"facet/shape"
)

// asked are the arguments of a function, as far as it has them.
type asked struct {
	m       api.Mesh
	charges []int
	depth   int
	center  api.Point
}

// asker calls a function, and says which of the arguments it has.
type asker struct {
	name                            string
	hasCharges, hasDepth, hasCenter bool
	call                            func(a asked) []any
}

func values(l ...any) []any { return l }

// widest is a certificate that holds for the octahedron.
func widest() api.Certificate { return cert(ones(octa(1)), 0, sp(0, api.MaxFix)) }

func askers() []asker {
	return []asker{
		{"ValidateCharges", true, false, false, func(a asked) []any { return values(hold.ValidateCharges(a.m, a.charges)) }},
		{"Potentials", true, true, false, func(a asked) []any { l, e := hold.Potentials(a.m, a.charges, a.depth); return values(l, e) }},
		{"Energy", true, true, false, func(a asked) []any { s, e := hold.Energy(a.m, a.charges, a.depth); return values(s, e) }},
		{"Below", true, true, false, func(a asked) []any { n, e := hold.Below(a.m, a.charges, a.depth); return values(n, e) }},
		{"Above", true, true, false, func(a asked) []any { n, e := hold.Above(a.m, a.charges, a.depth); return values(n, e) }},
		{"Thomson", true, true, false, func(a asked) []any { n, e := hold.Thomson(a.m, a.charges, a.depth); return values(n, e) }},
		{"Ball", false, false, true, func(a asked) []any { n, e := hold.Ball(a.m, a.center); return values(n, e) }},
		{"Bounds", true, true, false, func(a asked) []any { s, e := hold.Bounds(a.m, a.charges, a.depth); return values(s, e) }},
		{"Even", false, true, false, func(a asked) []any { s, e := hold.Even(a.m, a.depth); return values(s, e) }},
		{"Improve", false, true, false, func(a asked) []any { l, e := hold.Improve(a.m, a.depth); return values(l, e) }},
		{"Prove", true, true, false, func(a asked) []any { c, e := hold.Prove(a.m, a.charges, a.depth); return values(c, e) }},
		{"Narrow", false, false, false, func(a asked) []any {
			s, e := hold.Narrow(a.m, []api.Certificate{widest()})
			return values(s, e)
		}},
		{"Dispute", false, false, false, func(a asked) []any {
			n, e := hold.Dispute(a.m, api.Certificate{}, widest())
			return values(n, e)
		}},
		{"Work", false, true, false, func(a asked) []any { n, e := hold.Work(a.m, a.depth); return values(n, e) }},
	}
}

// wrongMeshes have each error of shape.Validate.
func wrongMeshes() []api.Mesh {
	wrong := func(change func(m *api.Mesh)) api.Mesh {
		m := octa(1)
		change(&m)
		return m
	}
	return []api.Mesh{
		{},
		wrong(func(m *api.Mesh) { m.Points = make([]api.Point, 65) }),
		wrong(func(m *api.Mesh) { m.Faces = make([][3]int, 97) }),
		wrong(func(m *api.Mesh) { m.Points[0].X = 65 }),
		wrong(func(m *api.Mesh) { m.Points[0] = m.Points[1] }),
		wrong(func(m *api.Mesh) { m.Points[0].X = math.MinInt }),
		wrong(func(m *api.Mesh) { m.Faces[0][0] = 6 }),
		wrong(func(m *api.Mesh) { m.Faces[0][0] = math.MinInt }),
		wrong(func(m *api.Mesh) { m.Faces[0][0] = m.Faces[0][1] }),
		wrong(func(m *api.Mesh) { m.Faces = m.Faces[1:] }),
		wrong(func(m *api.Mesh) { m.Points = append(m.Points, pt(9, 9, 9)) }),
		reversed(octa(1)),
	}
}

// wantedError is the error that comes first.
func (a asked) wantedError(f asker) api.Errno {
	if e := shape.Validate(a.m); e != api.OK {
		return e
	}
	if f.hasCharges {
		wrong := func(n int) bool { return n < 0 || n > 100 }
		switch {
		case len(a.charges) != len(a.m.Faces) || slices.ContainsFunc(a.charges, wrong):
			return api.ErrArg
		case total(a.charges) == 0:
			return api.ErrZero
		}
	}
	if f.hasDepth && (a.depth < 0 || a.depth > 2) {
		return api.ErrArg
	}
	if f.hasCenter && slices.Max(a.charges) > 100 { // its charges stand for a wrong center
		return api.ErrArg
	}
	return api.OK
}

func isZero(v any) bool {
	r := reflect.ValueOf(v)
	return r.IsZero() || r.Kind() == reflect.Slice && r.Len() == 0
}

func TestRefusals(t *testing.T) { // R1, R2, R3, R6: all functions, with errors at once
	charges := [][]int{{1, 2, 3, 4, 5, 6, 7, 8}, make([]int, 8), {1}, {-1, 2, 3, 4, 5, 6, 7, 8}, {1, 2, 3, 4, 5, 6, 7, 101}, {math.MinInt, math.MaxInt, 0, 0, 0, 0, 0, 1}}
	seen := map[api.Errno]int{}
	for _, f := range askers() {
		for _, m := range append(wrongMeshes(), octa(1)) {
			for _, l := range charges {
				for _, depth := range []int{0, 1, 2, -1, 3, math.MinInt, math.MaxInt} {
					a := asked{m: m, charges: l, depth: depth}
					a.center.Z = max(0, slices.Max(l)) / 101 * 257
					want := a.wantedError(f)
					seen[want]++
					checkRefusal(t, f, a, want)
				}
			}
		}
	}
	for e := api.OK; e <= api.ErrZero; e++ {
		if e != api.ErrName && e != api.ErrSyntax && e != api.ErrOn && e != api.ErrNear && seen[e] < 20 {
			t.Error("R2 too few of the error", e, seen)
		}
	}
}

func checkRefusal(t *testing.T, f asker, a asked, want api.Errno) {
	t.Helper()
	got := f.call(a)
	last := len(got) - 1
	what := fmt.Sprint(f.name, " ", a)
	expect(t, "R2 "+what, got[last], any(want))
	for _, v := range got[:last] {
		if want != api.OK && !isZero(v) {
			t.Error("R3", what, "returns", got)
		}
	}
}

func TestJudgeRefusesMeshes(t *testing.T) { // P7.6: the error of the mesh comes first
	for _, m := range wrongMeshes() {
		for _, c := range []api.Certificate{widest(), {}, cert(ones(m), 3, sp(1, 0))} {
			expect(t, fmt.Sprint("P7.6 Judge ", m, c), hold.Judge(m, c), shape.Validate(m))
		}
	}
}

func TestArgumentsStay(t *testing.T) { // R5, R11
	m, charges := finer(octa(1)), slices.Repeat([]int{1, 2, 3, 4}, 8)
	a := asked{m: m, charges: charges, depth: 1}
	before := fmt.Sprint(a)
	for _, f := range askers() {
		first := fmt.Sprint(f.call(a))
		expect(t, "R11 "+f.name, fmt.Sprint(f.call(a)), first)
		expect(t, "R5 "+f.name, fmt.Sprint(a), before)
	}
	c := cert(charges, 1, sp(0, api.MaxFix))
	hold.Judge(m, c)
	hold.Narrow(m, []api.Certificate{c, c})
	hold.Dispute(m, c, c)
	expect(t, "R5 certificates", fmt.Sprint(c.Charges), fmt.Sprint(a.charges))
	expect(t, "R5 certificates", fmt.Sprint(a), before)
}
