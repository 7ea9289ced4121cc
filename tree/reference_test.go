package tree_test

import (
	"fmt"
	"math"
	"math/big"
	"math/rand/v2"
	"sort"
	"testing"

	"facet/api"
	"facet/field"
	"facet/moment"
	"facet/span"
	"facet/tree"
)

// The tests hold the package against a reference that follows the chapter word by
// word and shares no code with it; what the chapter takes from the lower layers is
// asked of them.

const one = api.One

func pt(x, y, z int) api.Point { return api.Point{X: x, Y: y, Z: z} }

func tri(a, b, c api.Point) api.Panel { return api.Panel{A: a, B: b, C: c} }

func sp(lo, hi int) api.Span { return api.Span{Lo: lo, Hi: hi} }

func charged(p api.Panel, charge int) api.Charged { return api.Charged{Panel: p, Charge: charge} }

func random() *rand.Rand { return rand.New(rand.NewPCG(1, 2)) }

func expect[T comparable](t *testing.T, what string, got, want T) {
	t.Helper()
	if got != want {
		t.Errorf("%s: %v, want %v", what, got, want)
	}
}

// expectAlike compares lists, too; a nil slice is as an empty one.
func expectAlike(t *testing.T, what string, got, want any) {
	t.Helper()
	if a, b := fmt.Sprintf("%+v", got), fmt.Sprintf("%+v", want); a != b {
		t.Errorf("%s: %s, want %s", what, a, b)
	}
}

// must returns a result that has no error.
func must[T any](v T, e api.Errno) T {
	if e != api.OK {
		panic(e)
	}
	return v
}

// result is what a function returns.
type result[T any] struct {
	v T
	e api.Errno
}

func res[T any](v T, e api.Errno) result[T] { return result[T]{v, e} }

func refused[T any](e api.Errno) result[T] { return result[T]{e: e} }

func axes(p api.Point) [3]int { return [3]int{p.X, p.Y, p.Z} }

func point(a [3]int) api.Point { return pt(a[0], a[1], a[2]) }

func minus(a, b api.Point) api.Point { return pt(a.X-b.X, a.Y-b.Y, a.Z-b.Z) }

func listed(p api.Panel) [3]api.Point { return [3]api.Point{p.A, p.B, p.C} }

func square(u api.Point) int { return u.X*u.X + u.Y*u.Y + u.Z*u.Z }

func somewhere(r *rand.Rand, size int) api.Point {
	return pt(r.IntN(2*size+1)-size, r.IntN(2*size+1)-size, r.IntN(2*size+1)-size)
}

// isFlat reports whether the sides of a triangle are along one line.
func isFlat(p api.Panel) bool {
	b, c := axes(minus(p.B, p.A)), axes(minus(p.C, p.A))
	return b[0]*c[1] == b[1]*c[0] && b[1]*c[2] == b[2]*c[1] && b[2]*c[0] == b[0]*c[2]
}

// some returns n charged panels whose corners are at most size from their middles,
// which lie within spread.
func some(r *rand.Rand, n, size, spread int) []api.Charged {
	var l []api.Charged
	for len(l) < n {
		at := somewhere(r, spread)
		corner := func() api.Point {
			u := somewhere(r, size)
			return pt(at.X+u.X, at.Y+u.Y, at.Z+u.Z)
		}
		p := tri(corner(), corner(), corner())
		if !isFlat(p) {
			l = append(l, charged(p, r.IntN(201)-100))
		}
	}
	return l
}

// at is a small panel at a place, with the charge 1.
func at(x, y, z int) api.Charged {
	return charged(tri(pt(x, y, z), pt(x+1, y, z), pt(x, y+1, z)), 1)
}

// row has n small panels in a row, gap apart.
func row(n, gap int) []api.Charged {
	var l []api.Charged
	for i := range n {
		l = append(l, at(i*gap, 0, 0))
	}
	return l
}

// lists are charged panels of many kinds: none, one, many, equal ones, near and far.
func lists(r *rand.Rand) [][]api.Charged {
	l := [][]api.Charged{nil, row(1, 1), row(2, 60), row(17, 3), append(row(20, 0), row(13, 2)...)}
	for _, n := range []int{2, 3, 7, 16, 17, 33} {
		l = append(l, some(r, n, 1, 1), some(r, n, 2, 20), some(r, n, 1, 63), some(r, n, 64, 0))
	}
	return append(l, some(r, api.MaxFaces, 1, 60))
}

// branch is a cluster with its parts, as the reference has it.
type branch struct {
	panels      []int // sorted as the tree has them at last
	left, right *branch
	center      api.Point
	radius2     int
}

// sumOf is the key of a panel.
func sumOf(c api.Charged, axis int) int {
	return axes(c.Panel.A)[axis] + axes(c.Panel.B)[axis] + axes(c.Panel.C)[axis]
}

// half is half of n, rounded down.
func half(n int) int { return int(math.Floor(float64(n) / 2)) }

func referenceBranch(l []api.Charged, panels []int, leaf int) *branch {
	b := &branch{panels: panels}
	for axis := range 3 {
		var places []int
		for _, i := range panels {
			for _, p := range listed(l[i].Panel) {
				places = append(places, axes(p)[axis])
			}
		}
		sort.Ints(places)
		c := axes(b.center)
		c[axis] = half(places[0] + places[len(places)-1])
		b.center = point(c)
	}
	for _, i := range panels {
		for _, p := range listed(l[i].Panel) {
			b.radius2 = max(b.radius2, square(minus(p, b.center)))
		}
	}
	if len(panels) <= leaf {
		return b
	}
	best, most := 0, -1
	for axis := range 3 {
		for _, i := range panels {
			for _, j := range panels {
				if d := sumOf(l[i], axis) - sumOf(l[j], axis); d > most {
					best, most = axis, d
				}
			}
		}
	}
	sorted := append([]int(nil), panels...)
	sort.Ints(sorted)
	sort.SliceStable(sorted, func(a, b int) bool { return sumOf(l[sorted[a]], best) < sumOf(l[sorted[b]], best) })
	first := len(sorted) - len(sorted)/2
	b.left, b.right = referenceBranch(l, sorted[:first], leaf), referenceBranch(l, sorted[first:], leaf)
	b.panels = append(append([]int(nil), b.left.panels...), b.right.panels...)
	return b
}

func (b *branch) count() int {
	if b == nil {
		return 0
	}
	return 1 + b.left.count() + b.right.count()
}

// nodes are the nodes of a branch whose first one has the number first, and its
// panels begin at the place from.
func (b *branch) nodes(first, from int) []api.Node {
	n := api.Node{From: from, To: from + len(b.panels), Left: -1, Right: -1, Center: b.center, Radius2: b.radius2}
	if b.left == nil {
		return []api.Node{n}
	}
	n.Left, n.Right = first+1, first+1+b.left.count()
	l := append([]api.Node{n}, b.left.nodes(n.Left, from)...)
	return append(l, b.right.nodes(n.Right, from+len(b.left.panels))...)
}

func referenceBuild(l []api.Charged, leaf int) api.Tree {
	if len(l) == 0 {
		return api.Tree{}
	}
	var all []int
	for i := range l {
		all = append(all, i)
	}
	b := referenceBranch(l, all, leaf)
	return api.Tree{Order: b.panels, Nodes: b.nodes(0, 0)}
}

func referenceHeight(t api.Tree, k int) int {
	if t.Nodes[k].Left < 0 {
		return 1
	}
	return 1 + max(referenceHeight(t, t.Nodes[k].Left), referenceHeight(t, t.Nodes[k].Right))
}

// found is what Chosen returns.
type found struct{ nodes, panels []int }

func referenceChosen(t api.Tree, k int, x api.Point, sep int) found {
	node := t.Nodes[k]
	n := square(minus(x, node.Center))
	if node.Radius2*sep*sep <= n && node.Radius2 < n {
		return found{nodes: []int{k}}
	}
	if node.Left < 0 {
		return found{panels: t.Order[node.From:node.To]}
	}
	a, b := referenceChosen(t, node.Left, x, sep), referenceChosen(t, node.Right, x, sep)
	return found{append(append([]int(nil), a.nodes...), b.nodes...), append(append([]int(nil), a.panels...), b.panels...)}
}

// referencePotential is P5.4 for arguments that are in range.
func referencePotential(l []api.Charged, t api.Tree, x api.Point, sep, order, depth int) result[api.Span] {
	var c found
	if len(l) > 0 {
		c = referenceChosen(t, 0, x, sep)
	}
	var spans []api.Span
	for _, k := range c.nodes {
		node := t.Nodes[k]
		var panels []api.Charged
		for _, i := range t.Order[node.From:node.To] {
			panels = append(panels, l[i])
		}
		s, e := moment.Far(must(moment.Of(panels, node.Center)), must(moment.Radius2(panels, node.Center)), minus(x, node.Center), order)
		if e != api.OK {
			return refused[api.Span](e)
		}
		spans = append(spans, s)
	}
	for _, i := range c.panels {
		mean, e := field.Mean(l[i].Panel, x, depth)
		if e != api.OK {
			return refused[api.Span](e)
		}
		spans = append(spans, must(span.Scale(mean, l[i].Charge)))
	}
	return res(span.Sum(spans))
}

func referenceBlocks(t api.Tree, a, b, sep int) []api.Block {
	source, target := t.Nodes[a], t.Nodes[b]
	n := square(minus(source.Center, target.Center))
	switch {
	case (source.Radius2+target.Radius2)*4*sep*sep <= n && n > 0:
		return []api.Block{{Source: a, Target: b, Far: true}}
	case source.Left < 0 && target.Left < 0:
		return []api.Block{{Source: a, Target: b}}
	}
	splitSource := source.To-source.From >= target.To-target.From
	if splitSource && source.Left < 0 || !splitSource && target.Left < 0 {
		splitSource = !splitSource
	}
	if splitSource {
		return append(referenceBlocks(t, source.Left, b, sep), referenceBlocks(t, source.Right, b, sep)...)
	}
	return append(referenceBlocks(t, a, target.Left, sep), referenceBlocks(t, a, target.Right, sep)...)
}

// blocksOf are the blocks of a tree, which may be that of no panels.
func blocksOf(t api.Tree, sep int) []api.Block {
	if len(t.Nodes) == 0 {
		return nil
	}
	return referenceBlocks(t, 0, 0, sep)
}

func whole(n int) *big.Int { return big.NewInt(int64(n)) }

// root is the greatest number whose square is at most n*One*One, and one more if it
// is to be at least that and is not.
func root(n int, up bool) *big.Int {
	target := new(big.Int).Mul(whole(n), whole(one*one))
	k := new(big.Int).Sqrt(target)
	if up && new(big.Int).Mul(k, k).Cmp(target) < 0 {
		k.Add(k, whole(1))
	}
	return k
}

// referenceFarSpan is P5.6 for nodes that are in range.
func referenceFarSpan(a, b api.Node) result[api.Span] {
	n := square(minus(a.Center, b.Center))
	both := new(big.Int).Add(root(a.Radius2, true), root(b.Radius2, true))
	near := new(big.Int).Sub(root(n, false), both)
	if near.Sign() <= 0 {
		return refused[api.Span](api.ErrNear)
	}
	far := new(big.Int).Add(root(n, true), both)
	lo := new(big.Int).Div(whole(one*one), far)
	hi, rest := new(big.Int).DivMod(whole(one*one), near, new(big.Int))
	if rest.Sign() > 0 {
		hi.Add(hi, whole(1))
	}
	return res(sp(int(lo.Int64()), int(hi.Int64())), api.OK)
}

// referenceEntries has the span of each source and target of an operator.
func referenceEntries(o tree.Operator) map[[2]int]api.Span {
	m := map[[2]int]api.Span{}
	for k, b := range o.Blocks {
		source, target := o.Tree.Nodes[b.Source], o.Tree.Nodes[b.Target]
		for s := range source.To - source.From {
			for t := range target.To - target.From {
				place := s*(target.To-target.From) + t
				if b.Far {
					place = 0
				}
				m[[2]int{o.Tree.Order[source.From+s], o.Tree.Order[target.From+t]}] = o.Spans[k][place]
			}
		}
	}
	return m
}

// referenceSums is P5.8 for the entries of sources and targets.
func referenceSums(l []api.Charged, entry func(i, j int) api.Span) result[[]api.Span] {
	var sums []api.Span
	for j := range l {
		lo, hi := 0, 0
		for i, c := range l {
			s := entry(i, j)
			a, b := s.Lo*c.Charge, s.Hi*c.Charge
			lo, hi = lo+min(a, b), hi+max(a, b)
			if !span.Valid(sp(min(a, b), max(a, b))) {
				return refused[[]api.Span](api.ErrLarge)
			}
		}
		if !span.Valid(sp(lo, hi)) {
			return refused[[]api.Span](api.ErrLarge)
		}
		sums = append(sums, sp(lo, hi))
	}
	return res(sums, api.OK)
}

// meets expects that two spans have a common number.
func meets(t *testing.T, what string, a, b api.Span) {
	t.Helper()
	if _, ok, e := span.Meet(a, b); !ok || e != api.OK {
		t.Error(what, a, "does not meet", b)
	}
}
