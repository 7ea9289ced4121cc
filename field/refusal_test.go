package field_test

import (
	"fmt"
	"math"
	"reflect"
	"testing"

	"facet/api"
	"facet/field"
	"facet/shape"
)

// asked are the arguments of a function, as far as it has them.
type asked struct {
	p, q  api.Panel
	x     api.Point
	depth int
}

// asker calls a function, and says which of the arguments it has.
type asker struct {
	name                string
	deepest             int // the greatest depth; -1: it has none
	hasSecond, hasPoint bool
	call                func(a asked) []any
}

func values(l ...any) []any { return l }

func askers() []asker {
	one := func(p api.Panel) []api.Charged { return []api.Charged{{Panel: p, Charge: 7}} }
	return []asker{
		{"Parts", 3, false, false, func(a asked) []any { l, e := field.Parts(a.p, a.depth); return values(l, e) }},
		{"Mean", 3, false, true, func(a asked) []any { s, e := field.Mean(a.p, a.x, a.depth); return values(s, e) }},
		{"MeanCube", 3, false, true, func(a asked) []any { s, e := field.MeanCube(a.p, a.x, a.depth); return values(s, e) }},
		{"SolidAngle", 3, false, true, func(a asked) []any { s, e := field.SolidAngle(a.p, a.x, a.depth); return values(s, e) }},
		{"Potential", 3, false, true, func(a asked) []any { s, e := field.Potential(one(a.p), a.x, a.depth); return values(s, e) }},
		{"Clear", 3, false, true, func(a asked) []any { ok, e := field.Clear(one(a.p), a.x, a.depth); return values(ok, e) }},
		{"Rim", 3, false, false, func(a asked) []any { k, e := field.Rim(a.p, a.depth); return values(k, e) }},
		{"Between", 2, true, false, func(a asked) []any { s, e := field.Between(a.p, a.q, a.depth); return values(s, e) }},
		{"Mutual", 2, true, false, func(a asked) []any { s, e := field.Mutual(a.p, a.q, a.depth); return values(s, e) }},
		{"Least", -1, false, true, func(a asked) []any {
			n, s, ok, e := field.Least(a.p, a.x, api.MaxFix)
			return values(n, s, ok, e)
		}},
	}
}

// panels that are right, and wrong ones with their errors.
func wrongPanels() []api.Panel {
	return []api.Panel{
		{},
		tri(pt(1, 1, 1), pt(2, 2, 2), pt(-3, -3, -3)),
		tri(pt(65, 0, 0), pt(0, 1, 0), pt(0, 0, 1)),
		tri(pt(1, 0, 0), pt(0, -65, 0), pt(0, 0, 1)),
		tri(pt(1, 0, 0), pt(0, 1, 0), pt(0, 0, 65)),
		tri(pt(-65, 0, 0), pt(-65, 0, 0), pt(0, 0, 1)),
		tri(pt(math.MinInt, 0, 0), pt(math.MaxInt, 1, 0), pt(0, 0, 1)),
	}
}

func rightAndWrongPoints() []api.Point {
	l := []api.Point{pt(9, 9, 9), pt(256, -256, 256), small.A}
	for _, n := range []int{257, -257, math.MaxInt, math.MinInt} {
		l = append(l, pt(n, 0, 0), pt(0, n, 0), pt(0, 0, n))
	}
	return l
}

// wantedError is the error that comes first.
func (a asked) wantedError(f asker) api.Errno {
	if e := shape.ValidatePanel(a.p); e != api.OK {
		return e
	}
	if e := shape.ValidatePanel(a.q); f.hasSecond && e != api.OK {
		return e
	}
	for _, n := range axes(a.x) {
		if f.hasPoint && (n < -256 || n > 256) {
			return api.ErrArg
		}
	}
	if f.deepest >= 0 && (a.depth < 0 || a.depth > f.deepest) {
		return api.ErrArg
	}
	if f.hasPoint && a.x == a.p.A && f.name != "Clear" && f.name != "Least" {
		return api.ErrNear
	}
	return api.OK
}

func TestRefusals(t *testing.T) { // P3.1 to P3.7, R1, R2, R3, R6
	panels := append(wrongPanels(), small, large)
	for _, f := range askers() {
		seconds, points := []api.Panel{small}, []api.Point{{}}
		if f.hasSecond {
			seconds = panels
		}
		if f.hasPoint {
			points = rightAndWrongPoints()
		}
		for _, p := range panels {
			for _, q := range seconds {
				for _, x := range points {
					for _, depth := range []int{-1, 0, 1, 2, 3, 4, math.MinInt, math.MaxInt} {
						a := asked{p, q, x, depth}
						expectError(t, fmt.Sprint(f.name, " ", a), f.call(a), a.wantedError(f))
					}
				}
			}
		}
	}
}

// expectError expects an error, and with it zero values.
func expectError(t *testing.T, what string, got []any, want api.Errno) {
	t.Helper()
	last := len(got) - 1
	if got[last] != want {
		t.Errorf("%s: the error %v, want %v", what, got[last], want)
	}
	for _, v := range got[:last] {
		r := reflect.ValueOf(v)
		zero := r.IsZero() || r.Kind() == reflect.Slice && r.Len() == 0
		if want != api.OK && !zero {
			t.Errorf("%s: with the error %v: %v", what, want, v)
		}
	}
}
