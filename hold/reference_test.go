package hold_test

import (
	"fmt"
	"math/big"
	"math/rand/v2"
	"slices"
	"testing"

	"facet/api"
	"facet/field"
	"facet/hold"
	"facet/shape"
)

// The tests hold the package against a reference that follows the chapter word by
// word, with integers of any length, and shares no code with it; what the chapter
// takes from the lower layers is asked of them.

const one = api.One

func pt(x, y, z int) api.Point { return api.Point{X: x, Y: y, Z: z} }

func sp(lo, hi int) api.Span { return api.Span{Lo: lo, Hi: hi} }

func random() *rand.Rand { return rand.New(rand.NewPCG(1, 2)) }

func expect[T comparable](t *testing.T, what string, got, want T) {
	t.Helper()
	if got != want {
		t.Errorf("%s: %v, want %v", what, got, want)
	}
}

// must returns a result that has no error.
func must[T any](v T, e api.Errno) T {
	if e != api.OK {
		panic(e)
	}
	return v
}

// result is what a function returns.
type result[T any] struct {
	v T
	e api.Errno
}

func res[T any](v T, e api.Errno) result[T] { return result[T]{v, e} }

func refused[T any](e api.Errno) result[T] { return result[T]{e: e} }

func box(a, b, c int) api.Mesh { return must(shape.Block(a, b, c)) }

func octa(r int) api.Mesh { return must(shape.Octa(r)) }

func finer(m api.Mesh) api.Mesh { return must(shape.Finer(m)) }

func scaled(m api.Mesh, k int) api.Mesh { return must(shape.Scale(m, k)) }

func moved(m api.Mesh, x, y, z int) api.Mesh { return must(shape.Move(m, pt(x, y, z))) }

func joined(a, b api.Mesh) api.Mesh { return must(shape.Unite(a, b)) }

// reversed turns all faces over.
func reversed(m api.Mesh) api.Mesh {
	var faces [][3]int
	for _, f := range m.Faces {
		faces = append(faces, [3]int{f[0], f[2], f[1]})
	}
	return api.Mesh{Points: m.Points, Faces: faces}
}

// join lays meshes side by side, without asking whether they are valid.
func join(a, b api.Mesh) api.Mesh {
	all := api.Mesh{Points: slices.Concat(a.Points, b.Points), Faces: slices.Clone(a.Faces)}
	n := len(a.Points)
	for _, f := range b.Faces {
		all.Faces = append(all.Faces, [3]int{f[0] + n, f[1] + n, f[2] + n})
	}
	return all
}

func tetra(a, b, c, d api.Point) api.Mesh {
	m := api.Mesh{Points: []api.Point{a, b, c, d}, Faces: [][3]int{{0, 1, 2}, {0, 2, 3}, {0, 3, 1}, {1, 3, 2}}}
	if shape.Validate(m) == api.ErrTurned {
		return reversed(m)
	}
	return m
}

// someTetra is a tetrahedron whose corners have coordinates up to size.
func someTetra(r *rand.Rand, size int) api.Mesh {
	somewhere := func() api.Point {
		return pt(r.IntN(2*size+1)-size, r.IntN(2*size+1)-size, r.IntN(2*size+1)-size)
	}
	for {
		m := tetra(somewhere(), somewhere(), somewhere(), somewhere())
		if shape.Validate(m) == api.OK {
			return m
		}
	}
}

// largest has as many faces as a mesh may have.
func largest() api.Mesh {
	half := finer(box(1, 2, 3))
	return joined(half, moved(half, 5, -20, 9))
}

// small are meshes of few faces: small and large, flat, long and pointed, in two
// parts, with a hollow inside, passing through itself, and with a middle of the box
// between integers, below 0 and above.
func small(r *rand.Rand) []api.Mesh {
	l := []api.Mesh{
		octa(1), octa(64), box(1, 1, 1), box(1, 2, 3), box(64, 1, 1), box(1, 40, 40),
		scaled(moved(box(2, 2, 2), -1, -1, -1), 64),
		moved(box(1, 2, 3), -2, -3, -4),
		moved(octa(3), 61, -61, 61),
		tetra(pt(-3, -3, -3), pt(-2, -3, -3), pt(-3, -2, -3), pt(-3, -3, -2)),
		tetra(pt(-64, -64, -64), pt(64, 64, -64), pt(64, 64, -63), pt(-64, 63, 64)),
		joined(octa(1), moved(octa(2), 9, 0, 0)),
		joined(octa(3), moved(octa(3), 2, 1, 0)),
		join(box(9, 9, 9), reversed(moved(box(3, 3, 3), 4, 4, 4))),
	}
	for _, size := range []int{1, 2, 5, 20, 64} {
		l = append(l, someTetra(r, size), someTetra(r, size))
	}
	return l
}

func axes(p api.Point) [3]int { return [3]int{p.X, p.Y, p.Z} }

func panel(m api.Mesh, i int) api.Panel {
	f := m.Faces[i]
	return api.Panel{A: m.Points[f[0]], B: m.Points[f[1]], C: m.Points[f[2]]}
}

func ones(m api.Mesh) []int { return slices.Repeat([]int{1}, len(m.Faces)) }

// chargesOf are charges of a mesh: even ones, those at the limits, one face alone, and
// some.
func chargesOf(r *rand.Rand, m api.Mesh, each int) [][]int {
	n := len(m.Faces)
	alone := make([]int, n)
	alone[r.IntN(n)] = 1 + r.IntN(api.MaxCharge)
	most := slices.Repeat([]int{api.MaxCharge}, n)
	most[r.IntN(n)] = 0
	l := [][]int{ones(m), slices.Repeat([]int{api.MaxCharge}, n), alone, most}
	for range each {
		charges := make([]int, n)
		top := 2 + r.IntN(api.MaxCharge)
		for i := range charges {
			charges[i] = r.IntN(top)
		}
		charges[r.IntN(n)] = top - 1
		l = append(l, charges)
	}
	return l
}

func integer(n int) *big.Int { return big.NewInt(int64(n)) }

func times(a, b *big.Int) *big.Int { return new(big.Int).Mul(a, b) }

// down and up are a/b, rounded. Nothing is below 0.
func down(a, b *big.Int) *big.Int { return new(big.Int).Quo(a, b) }

func up(a, b *big.Int) *big.Int {
	q, rest := new(big.Int).QuoRem(a, b, new(big.Int))
	if rest.Sign() > 0 {
		q.Add(q, integer(1))
	}
	return q
}

// fixed is a fixed point number, if it is one.
func fixed(n *big.Int) (int, api.Errno) {
	if n.Cmp(integer(api.MaxFix)) > 0 {
		return 0, api.ErrLarge
	}
	return int(n.Int64()), api.OK
}

// pairing is Between and Mutual of two faces of a mesh at a depth.
type pairing struct{ between, mutual api.Span }

type question struct {
	p, q  api.Panel
	depth int
}

// known keeps what the lower layers said: to ask them takes most of the time of the tests.
var known = map[question]pairing{}

func pair(m api.Mesh, i, j, depth int) pairing {
	p, q := panel(m, i), panel(m, j)
	asked := question{p, q, depth}
	v, ok := known[asked]
	if !ok {
		v = pairing{must(field.Between(p, q, depth)), must(field.Mutual(p, q, depth))}
		known[asked] = v
	}
	return v
}

func total(charges []int) int {
	q := 0
	for _, c := range charges {
		q += c
	}
	return q
}

// reference has the sums of P7.2, without a limit.
type reference struct {
	potentialLo, potentialHi []*big.Int
	energyLo, energyHi       *big.Int
	square                   *big.Int // Q*One*One
	q                        *big.Int
}

func referenceOf(m api.Mesh, charges []int, depth int) reference {
	ref := reference{energyLo: new(big.Int), energyHi: new(big.Int), q: integer(total(charges))}
	ref.square = times(ref.q, integer(one*one))
	add := func(to *big.Int, n, weight int) { to.Add(to, times(integer(n), integer(weight))) }
	for j := range m.Faces {
		lo, hi := new(big.Int), new(big.Int)
		for i := range m.Faces {
			s := pair(m, i, j, depth)
			add(lo, s.between.Lo, charges[i])
			add(hi, s.between.Hi, charges[i])
			add(ref.energyLo, s.mutual.Lo, charges[i]*charges[j])
			add(ref.energyHi, s.mutual.Hi, charges[i]*charges[j])
		}
		ref.potentialLo, ref.potentialHi = append(ref.potentialLo, lo), append(ref.potentialHi, hi)
	}
	return ref
}

func (ref reference) energy() (api.Span, api.Errno) {
	hi, e := fixed(ref.energyHi)
	if e != api.OK {
		return api.Span{}, e
	}
	return sp(int(ref.energyLo.Int64()), hi), api.OK
}

func (ref reference) below() (int, api.Errno) {
	l := slices.Clone(ref.potentialHi)
	slices.SortFunc(l, (*big.Int).Cmp)
	return fixed(down(ref.square, l[len(l)-1]))
}

func (ref reference) above() (int, api.Errno) {
	l := slices.Clone(ref.potentialLo)
	slices.SortFunc(l, (*big.Int).Cmp)
	return fixed(up(ref.square, l[0]))
}

func (ref reference) thomson() (int, api.Errno) {
	if _, e := ref.energy(); e != api.OK {
		return 0, e
	}
	return fixed(down(ref.square, up(ref.energyHi, ref.q)))
}

// referenceBall takes the root of each squared distance.
func referenceBall(m api.Mesh, center api.Point) int {
	radius := 0
	for _, p := range m.Points {
		n := 0
		for k, x := range axes(p) {
			n += (x - axes(center)[k]) * (x - axes(center)[k])
		}
		square := times(integer(n), integer(one*one))
		root := new(big.Int).Sqrt(square)
		if times(root, root).Cmp(square) < 0 {
			root.Add(root, integer(1))
		}
		radius = max(radius, int(root.Int64()))
	}
	return radius
}

// referenceMiddle is the middle of the box, rounded down.
func referenceMiddle(m api.Mesh) api.Point {
	var middle [3]int
	for k := range middle {
		lo, hi := axes(m.Points[0])[k], axes(m.Points[0])[k]
		for _, p := range m.Points {
			lo, hi = min(lo, axes(p)[k]), max(hi, axes(p)[k])
		}
		for 2*(middle[k]+1) <= lo+hi {
			middle[k]++
		}
		for 2*middle[k] > lo+hi {
			middle[k]--
		}
	}
	return pt(middle[0], middle[1], middle[2])
}

func (ref reference) bounds(m api.Mesh) (api.Span, api.Errno) {
	below, e1 := ref.below()
	thomson, e2 := ref.thomson()
	above, e3 := ref.above()
	for _, e := range []api.Errno{e1, e2, e3} {
		if e != api.OK {
			return api.Span{}, e
		}
	}
	return sp(max(below, thomson), min(above, referenceBall(m, referenceMiddle(m)))), api.OK
}

func referenceBounds(m api.Mesh, charges []int, depth int) (api.Span, api.Errno) {
	return referenceOf(m, charges, depth).bounds(m)
}

// everyone hands out meshes with charges and depths.
func everyone(each int, hand func(what string, m api.Mesh, charges []int, depth int)) {
	r := random()
	for k, m := range small(r) {
		for depth := range api.MaxPair + 1 {
			for _, charges := range chargesOf(r, m, each) {
				hand(fmt.Sprint("mesh ", k, " charges ", charges, " depth ", depth), m, charges, depth)
			}
		}
	}
	for k, m := range []api.Mesh{finer(octa(1)), largest()} {
		for depth := range 2 - k {
			for _, charges := range chargesOf(r, m, 2) {
				hand(fmt.Sprint("large mesh ", k, " charges ", charges, " depth ", depth), m, charges, depth)
			}
		}
	}
}

// capacity is a span of the capacity of a mesh, as narrow as some bounds make it.
func capacity(t *testing.T, what string, m api.Mesh, r *rand.Rand) api.Span {
	t.Helper()
	lo, hi := 0, api.MaxFix
	for depth := range api.MaxPair + 1 {
		for _, charges := range chargesOf(r, m, 1) {
			s, e := hold.Bounds(m, charges, depth)
			if e == api.ErrLarge {
				continue
			}
			expect(t, what, e, api.OK)
			lo, hi = max(lo, s.Lo), min(hi, s.Hi)
		}
	}
	if lo > hi {
		t.Error(what, "excludes itself:", lo, hi)
	}
	return sp(lo, hi)
}
