package tree_test

import (
	"fmt"
	"math"
	"math/big"
	"math/rand/v2"
	"slices"
	"testing"

	"facet/api"
	"facet/tree"
)

func TestBlocks(t *testing.T) { // P5.5, S4
	far, near := 0, 0
	for _, l := range lists(random()) {
		for _, leaf := range []int{1, 2, 5, 16} {
			built := referenceBuild(l, leaf)
			for _, sep := range []int{1, 2, 3, 7, 16} {
				what := fmt.Sprint("P5.5 Blocks of ", len(l), " leaf ", leaf, " sep ", sep)
				got := must(tree.Blocks(l, built, sep))
				expectAlike(t, what, got, blocksOf(built, sep))
				expect(t, what, res(tree.Covers(l, built, got)), res(true, api.OK))
				expect(t, "S4 "+what, coversOnce(built, got), true)
				for _, b := range got {
					if b.Far {
						far++
					} else {
						near++
					}
				}
			}
		}
	}
	if far < 1000 || near < 1000 {
		t.Error("P5.5 too few of a kind", far, near)
	}
}

func TestBlocksExamples(t *testing.T) { // P5.5
	l := row(2, 60) // example 2
	built := must(tree.Build(l, 1))
	expectAlike(t, "P5.5 example 2", res(tree.Blocks(l, built, 1)), res([]api.Block{
		{Source: 1, Target: 1}, {Source: 1, Target: 2, Far: true}, {Source: 2, Target: 1, Far: true}, {Source: 2, Target: 2},
	}, api.OK))
	// Far from 2 + 2 as seen from 4 * sep * sep times that: at 4 and at 8, but not at 3 and 7.
	for _, c := range []struct {
		gap, sep int
		far      bool
	}{{2, 1, false}, {3, 1, true}, {5, 2, false}, {6, 2, true}, {45, 16, false}, {46, 16, true}} {
		l := row(2, c.gap) // each of them has Radius2 1
		got := must(tree.Blocks(l, must(tree.Build(l, 1)), c.sep))
		expectAlike(t, fmt.Sprint("P5.5 a row with gap ", c.gap), got[1], api.Block{Source: 1, Target: 2, Far: c.far})
	}
	expectAlike(t, "P5.5 of no panels", res(tree.Blocks(nil, api.Tree{}, 1)), res([]api.Block(nil), api.OK))
	// The border itself: (4 + 4) * 4 is 32, (4 + 5) * 4 is 36.
	square := func(x, y, z, n int) api.Charged {
		return charged(tri(pt(x-2, y, z), pt(x+2, y, z), pt(x, y+n-4, z)), 1)
	}
	for _, c := range []struct {
		x, y, z, n int
		far        bool
	}{{4, 4, 0, 5, true}, {4, 3, 2, 5, false}, {5, 2, 2, 5, true}, {4, 0, 4, 5, true}, {5, 1, 2, 5, false}} {
		l := []api.Charged{square(0, 0, 0, c.n), square(c.x, c.y, c.z, c.n)}
		built := must(tree.Build(l, 1))
		expect(t, "P5.5 the radius", built.Nodes[1].Radius2, 4)
		expectAlike(t, fmt.Sprint("P5.5 border ", c), must(tree.Blocks(l, built, 1))[1].Far, c.far)
	}
}

// coversOnce reports whether each pair of panels is in exactly one block.
func coversOnce(t api.Tree, list []api.Block) bool {
	n := len(t.Order)
	count := make([]int, n*n)
	for _, b := range list {
		if b.Source < 0 || b.Target < 0 || b.Source >= len(t.Nodes) || b.Target >= len(t.Nodes) {
			return false
		}
		for i := t.Nodes[b.Source].From; i < t.Nodes[b.Source].To; i++ {
			for j := t.Nodes[b.Target].From; j < t.Nodes[b.Target].To; j++ {
				count[t.Order[i]*n+t.Order[j]]++
			}
		}
	}
	return !slices.ContainsFunc(count, func(k int) bool { return k != 1 })
}

// cut returns blocks that cover two nodes, split by chance.
func cut(r *rand.Rand, t api.Tree, a, b int) []api.Block {
	source, target := t.Nodes[a], t.Nodes[b]
	switch r.IntN(3) {
	case 0:
		if source.Left >= 0 {
			return append(cut(r, t, source.Right, b), cut(r, t, source.Left, b)...)
		}
	case 1:
		if target.Left >= 0 {
			return append(cut(r, t, a, target.Left), cut(r, t, a, target.Right)...)
		}
	}
	return []api.Block{{Source: a, Target: b, Far: r.IntN(2) == 0}}
}

func TestCovers(t *testing.T) { // P5.5
	r := random()
	seen := map[bool]int{}
	for k := range 3000 {
		l := row(1+r.IntN(6), 2)
		built := must(tree.Build(l, 1+r.IntN(2)))
		list := cut(r, built, 0, 0)
		switch one := r.IntN(len(list)); k % 6 {
		case 0:
			list = slices.Delete(list, one, one+1)
		case 1:
			list = append(list, list[one])
		case 2:
			list[one].Source = r.IntN(len(built.Nodes))
		case 3:
			list[one].Target = r.IntN(len(built.Nodes))
		}
		want := coversOnce(built, list)
		seen[want]++
		expect(t, fmt.Sprint("P5.5 Covers of ", built, list), res(tree.Covers(l, built, list)), res(want, api.OK))
	}
	if seen[true] < 500 || seen[false] < 500 {
		t.Error("P5.5 Covers: too few of a kind", seen)
	}
}

func TestCoversBorders(t *testing.T) { // P5.5
	l := row(3, 2)
	built := must(tree.Build(l, 1))
	all := api.Block{}
	for _, list := range [][]api.Block{{all}, {{Far: true}}, {{Source: 1}, {Source: built.Nodes[0].Right}}, {{Target: built.Nodes[0].Right}, {Target: 1}}} {
		expect(t, fmt.Sprint("P5.5 Covers ", list), res(tree.Covers(l, built, list)), res(true, api.OK))
	}
	for _, list := range [][]api.Block{nil, {all, all}, {{Source: 1}}, {all, {Source: 4, Target: 4}}} {
		expect(t, fmt.Sprint("P5.5 Covers ", list), res(tree.Covers(l, built, list)), res(false, api.OK))
	}
	for _, n := range []int{-1, 5, math.MaxInt, math.MinInt} {
		for _, wrong := range []api.Block{{Source: n}, {Target: n}, {Source: n, Target: n}} {
			for _, list := range [][]api.Block{{wrong}, {all, wrong}, {wrong, all}} {
				expect(t, fmt.Sprint("P5.5 Covers ", list), res(tree.Covers(l, built, list)), res(false, api.OK))
			}
		}
	}
	expect(t, "P5.5 Covers of no panels", res(tree.Covers(nil, api.Tree{}, nil)), res(true, api.OK))
	expect(t, "P5.5 Covers of no panels", res(tree.Covers(nil, api.Tree{}, []api.Block{})), res(true, api.OK))
	expect(t, "P5.5 Covers of no panels", res(tree.Covers(nil, api.Tree{}, []api.Block{all})), res(false, api.OK))
	// Many blocks do not take long.
	many := make([]api.Block, 10_000_000)
	expect(t, "P5.5 Covers of many", res(tree.Covers(row(96, 0), must(tree.Build(row(96, 0), 1)), many)), res(false, api.OK))
}

func ball(center api.Point, radius2 int) api.Node {
	return api.Node{Center: center, Radius2: radius2}
}

func TestFarSpan(t *testing.T) { // P5.6
	r := random()
	seen := map[api.Errno]int{}
	for range 4000 {
		a, b := ball(somewhere(r, 64), r.IntN(1+1<<r.IntN(18))), ball(somewhere(r, 64), r.IntN(1+1<<r.IntN(18)))
		got := res(tree.FarSpan(a, b))
		seen[got.e]++
		expect(t, fmt.Sprint("P5.6 FarSpan ", a, b), got, referenceFarSpan(a, b))
		expect(t, "P5.6 FarSpan turned", res(tree.FarSpan(b, a)), got)
	}
	if seen[api.OK] < 500 || seen[api.ErrNear] < 500 {
		t.Error("P5.6 FarSpan: too few of a kind", seen)
	}
}

func TestFarSpanBorders(t *testing.T) { // P5.6
	zero := pt(0, 0, 0)
	for _, c := range []struct {
		a, b api.Node
		want result[api.Span]
	}{
		{ball(zero, 0), ball(pt(1, 0, 0), 0), res(sp(one, one), api.OK)},
		{ball(zero, 0), ball(zero, 0), refused[api.Span](api.ErrNear)},
		{ball(zero, 0), ball(pt(3, 0, 0), 0), res(sp(349525, 349526), api.OK)},
		{ball(pt(1, 2, 3), 4), ball(pt(6, 2, 3), 9), refused[api.Span](api.ErrNear)}, // 5 is 2 + 3
		{ball(pt(-64, 0, 0), 4), ball(pt(-58, 0, 0), 9), res(sp(95325, one), api.OK)},
		// The roots of 2 and 8 are that of 18, but rounded up they are above it.
		{ball(zero, 2), ball(pt(3, 3, 0), 8), refused[api.Span](api.ErrNear)},
		// R is above A + B by 1 alone, and by 2.
		{ball(zero, 1326), ball(pt(1, 22, 50), 332), res(sp(9596, api.MaxFix), api.OK)},
		{ball(zero, 440), ball(pt(0, -24, 49), 1128), res(sp(9609, api.MaxFix/2), api.OK)},
		{ball(pt(64, 64, 64), 0), ball(pt(-64, -64, -64), 1<<13), referenceFarSpan(ball(pt(128, 128, 128), 0), ball(zero, 1<<13))},
		{ball(zero, 1<<17), ball(pt(64, 64, 64), 0), refused[api.Span](api.ErrNear)},
	} {
		expect(t, fmt.Sprint("P5.6 FarSpan ", c.a, c.b), res(tree.FarSpan(c.a, c.b)), c.want)
	}
	// Near to each other, how the distance is rounded counts.
	for n := range 216 {
		a, b := ball(zero, 0), ball(pt(n/36, n/6%6, n%6), n%3/2)
		expect(t, fmt.Sprint("P5.6 FarSpan ", a, b), res(tree.FarSpan(a, b)), referenceFarSpan(a, b))
	}
	// Nothing else of a node counts.
	a, b := ball(zero, 4), ball(pt(9, 0, 0), 9)
	want := res(tree.FarSpan(a, b))
	a.From, a.To, a.Left, a.Right = math.MaxInt, math.MinInt, 7, -9
	expect(t, "P5.6 FarSpan, the rest of a node", res(tree.FarSpan(a, b)), want)
	expect(t, "P5.6 FarSpan, the rest of a node", want.e, api.OK)
}

func TestFarSpanRefuses(t *testing.T) { // P5.6
	wrong := []api.Node{ball(pt(0, 0, 0), -1), ball(pt(0, 0, 0), 1<<17+1), ball(pt(0, 0, 0), math.MaxInt), ball(pt(0, 0, 0), math.MinInt)}
	for _, n := range []int{65, -65, math.MaxInt, math.MinInt} {
		for _, c := range []api.Point{pt(n, 0, 0), pt(0, n, 0), pt(0, 0, n)} {
			wrong = append(wrong, ball(c, 0), ball(c, 1<<17))
		}
	}
	for _, w := range wrong {
		for _, other := range []api.Node{ball(pt(64, 0, 0), 0), ball(w.Center, 1<<17), w} { // ErrNear comes after
			expect(t, fmt.Sprint("P5.6 FarSpan ", w, other), res(tree.FarSpan(w, other)), refused[api.Span](api.ErrArg))
			expect(t, fmt.Sprint("P5.6 FarSpan ", other, w), res(tree.FarSpan(other, w)), refused[api.Span](api.ErrArg))
		}
	}
}

// pointsOf are points with integer coordinates in a ball, its poles among them.
func pointsOf(r *rand.Rand, n api.Node) []api.Point {
	k := int(math.Sqrt(float64(n.Radius2)))
	l := []api.Point{n.Center}
	for i := range 3 {
		for _, by := range []int{k, -k} {
			c := axes(n.Center)
			c[i] += by
			l = append(l, point(c))
		}
	}
	for range 10 {
		u := somewhere(r, k)
		if square(u) <= n.Radius2 {
			l = append(l, pt(n.Center.X+u.X, n.Center.Y+u.Y, n.Center.Z+u.Z))
		}
	}
	return l
}

func TestFarSpanEncloses(t *testing.T) { // P5.6: 1/r for all points of the balls
	r := random()
	checked := 0
	for range 600 {
		a, b := ball(somewhere(r, 64), r.IntN(900)), ball(somewhere(r, 64), r.IntN(900))
		s, e := tree.FarSpan(a, b)
		if e != api.OK {
			continue
		}
		for _, p := range pointsOf(r, a) {
			for _, q := range pointsOf(r, b) {
				checked++
				if !enclosesInverse(s, square(minus(p, q))) {
					t.Error("P5.6 FarSpan", a, b, s, "does not enclose 1/r of", p, q)
				}
			}
		}
	}
	if checked < 10000 {
		t.Error("P5.6 too few balls that are far", checked)
	}
}

// enclosesInverse reports whether a span encloses 1 / the root of n.
func enclosesInverse(s api.Span, n int) bool {
	square := func(k int) *big.Int { return new(big.Int).Mul(new(big.Int).Mul(whole(k), whole(k)), whole(n)) }
	return square(s.Lo).Cmp(whole(one*one)) <= 0 && square(s.Hi).Cmp(whole(one*one)) >= 0
}
