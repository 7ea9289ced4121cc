package tree_test

import (
	"fmt"
	"reflect"
	"testing"

	"facet/api"
	"facet/field"
	"facet/tree"
)

// asked are the arguments of a function, as far as it has them.
type asked struct {
	l                 []api.Charged
	t                 api.Tree
	x                 api.Point
	sep, order, depth int
}

// asker calls a function, and says which of the arguments it has.
type asker struct {
	name                            string
	hasTree, hasX, hasSep, hasOrder bool
	deepest                         int // the greatest depth; -1: it has none
	call                            func(a asked) []any
}

func values(l ...any) []any { return l }

func askers() []asker {
	return []asker{
		{"Build", false, false, false, false, -1, func(a asked) []any { t, e := tree.Build(a.l, 1); return values(t, e) }},
		{"Check", true, false, false, false, -1, func(a asked) []any { return values(tree.Check(a.l, a.t)) }},
		{"Chosen", true, true, true, false, -1, func(a asked) []any {
			nodes, panels, e := tree.Chosen(a.l, a.t, a.x, a.sep)
			return values(nodes, panels, e)
		}},
		{"Potential", true, true, true, true, 3, func(a asked) []any {
			s, e := tree.Potential(a.l, a.t, a.x, a.sep, a.order, a.depth)
			return values(s, e)
		}},
		{"Blocks", true, false, true, false, -1, func(a asked) []any { l, e := tree.Blocks(a.l, a.t, a.sep); return values(l, e) }},
		{"Covers", true, false, false, false, -1, func(a asked) []any {
			ok, e := tree.Covers(a.l, a.t, []api.Block{{}})
			return values(ok, e)
		}},
		{"Dense", false, false, false, false, 2, func(a asked) []any { l, e := tree.Dense(a.l, a.depth); return values(l, e) }},
		{"Compress", true, false, true, false, 2, func(a asked) []any {
			o, e := tree.Compress(a.l, a.t, a.sep, a.depth)
			return values(o, e)
		}},
		{"Entry", true, false, false, false, -1, func(a asked) []any {
			s, e := tree.Entry(a.l, operatorOf(a.l, a.t), 0, 0)
			return values(s, e)
		}},
		{"Apply", true, false, false, false, -1, func(a asked) []any {
			l, e := tree.Apply(a.l, operatorOf(a.l, a.t))
			return values(l, e)
		}},
		{"ApplyDense", false, false, false, false, 2, func(a asked) []any { l, e := tree.ApplyDense(a.l, a.depth); return values(l, e) }},
	}
}

// operatorOf has the tree, and is right if that is the one of the panels.
func operatorOf(l []api.Charged, t api.Tree) tree.Operator {
	o, e := tree.Compress(l, t, 1, 0)
	if e != api.OK {
		return tree.Operator{Tree: t, Blocks: []api.Block{{Source: -1}}}
	}
	return o
}

// wantedError is the error that comes first.
func (a asked) wantedError(f asker) api.Errno {
	if e := field.ValidateCharged(a.l); e != api.OK {
		return e
	}
	if f.hasTree && fmt.Sprint(a.t) != fmt.Sprint(referenceBuild(a.l, 1)) {
		return api.ErrArg
	}
	switch {
	case f.hasX && (a.x.Z < -256 || a.x.Z > 256), f.hasSep && (a.sep < 1 || a.sep > 16):
		return api.ErrArg
	case f.hasOrder && (a.order < 0 || a.order > 2), f.deepest >= 0 && (a.depth < 0 || a.depth > f.deepest):
		return api.ErrArg
	}
	return api.OK
}

// isZero reports whether a result is its zero value, or an empty list.
func isZero(v any) bool {
	r := reflect.ValueOf(v)
	return r.IsZero() || r.Kind() == reflect.Slice && r.Len() == 0
}

func TestRefusals(t *testing.T) { // R1, R2, R3: all functions, with errors at once
	right := row(4, 9)
	cases := [][]api.Charged{right, nil}
	for _, wrong := range wrongLists() {
		cases = append(cases, wrong...)
	}
	seen := map[api.Errno]int{}
	for _, f := range askers() {
		for _, l := range cases {
			for _, built := range []api.Tree{referenceBuild(right, 1), referenceBuild(row(4, 8), 1), {}, {Order: []int{9}, Nodes: []api.Node{{}}}} {
				for k := range 64 {
					a := asked{l: l, t: built, x: pt(0, 9, 90), sep: 1, order: 2, depth: 2}
					if k&1 > 0 {
						a.x = pt(0, 0, 500)
					}
					a.sep -= k >> 1 & 1
					a.order += k >> 2 & 1
					a.depth += []int{0, 1, -3, 2}[k>>3&3]
					if k>>5 > 0 {
						a.sep += 16
					}
					checkRefusal(t, f, a, seen)
				}
			}
		}
	}
	for _, e := range []api.Errno{api.OK, api.ErrArg, api.ErrFlat, api.ErrLarge} {
		if seen[e] < 50 {
			t.Error("R2 too few of a kind", seen)
		}
	}
}

func checkRefusal(t *testing.T, f asker, a asked, seen map[api.Errno]int) {
	t.Helper()
	got := f.call(a)
	last := len(got) - 1
	want := a.wantedError(f)
	if f.name == "Entry" && want == api.OK && len(a.l) == 0 {
		want = api.ErrNone
	}
	seen[want]++
	what := fmt.Sprint("R2 ", f.name, " ", a)
	expect(t, what, got[last], any(want))
	for _, v := range got[:last] {
		if want != api.OK && !isZero(v) {
			t.Error("R3", what, "returns", got)
		}
	}
}
