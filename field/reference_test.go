package field_test

import (
	"math/big"
	"math/rand/v2"
	"testing"

	"facet/api"
	"facet/shape"
)

// The tests hold the package against a reference that follows the chapter word by
// word, with integers of any length for roots, and shares no code with it.

const one = api.One

func pt(x, y, z int) api.Point { return api.Point{X: x, Y: y, Z: z} }

func tri(a, b, c api.Point) api.Panel { return api.Panel{A: a, B: b, C: c} }

func sp(lo, hi int) api.Span { return api.Span{Lo: lo, Hi: hi} }

func random() *rand.Rand { return rand.New(rand.NewPCG(1, 2)) }

type result struct {
	s api.Span
	e api.Errno
}

func res(s api.Span, e api.Errno) result { return result{s, e} }

func refused(e api.Errno) result { return result{e: e} }

func expect[T comparable](t *testing.T, what string, got, want T) {
	t.Helper()
	if got != want {
		t.Errorf("%s: %v, want %v", what, got, want)
	}
}

// must returns a result that has no error.
func must[T any](v T, e api.Errno) T {
	if e != api.OK {
		panic(e)
	}
	return v
}

func middle(a, b api.Point) api.Point {
	return pt((a.X+b.X)/2, (a.Y+b.Y)/2, (a.Z+b.Z)/2)
}

func enlarged(p api.Panel, k int) api.Panel {
	big := func(q api.Point) api.Point { return pt(k*q.X, k*q.Y, k*q.Z) }
	return tri(big(p.A), big(p.B), big(p.C))
}

// referenceParts cuts all parts of a depth before those of the next one.
func referenceParts(p api.Panel, depth int) []api.Panel {
	l := []api.Panel{p}
	for range depth {
		var next []api.Panel
		for _, t := range l {
			t = enlarged(t, 2)
			p, q, r := middle(t.A, t.B), middle(t.B, t.C), middle(t.C, t.A)
			next = append(next, tri(t.A, p, r), tri(p, t.B, q), tri(r, q, t.C), tri(p, q, r))
		}
		l = next
	}
	return l
}

func listed(p api.Panel) []api.Point { return []api.Point{p.A, p.B, p.C} }

func axes(p api.Point) [3]int { return [3]int{p.X, p.Y, p.Z} }

func referenceFar(a, b []api.Point) int {
	most := 0
	for _, p := range a {
		for _, q := range b {
			n := 0
			for k := range 3 {
				n += (axes(p)[k] - axes(q)[k]) * (axes(p)[k] - axes(q)[k])
			}
			most = max(most, n)
		}
	}
	return most
}

func referenceNear(a, b []api.Point) int {
	n := 0
	for k := range 3 {
		extent := func(l []api.Point) (lo, hi int) {
			lo, hi = axes(l[0])[k], axes(l[0])[k]
			for _, p := range l {
				lo, hi = min(lo, axes(p)[k]), max(hi, axes(p)[k])
			}
			return lo, hi
		}
		aLo, aHi := extent(a)
		bLo, bHi := extent(b)
		if aHi < bLo {
			n += (bLo - aHi) * (bLo - aHi)
		} else if bHi < aLo {
			n += (aLo - bHi) * (aLo - bHi)
		}
	}
	return n
}

func power(n, k int) *big.Int {
	return new(big.Int).Exp(big.NewInt(int64(n)), big.NewInt(int64(k)), nil)
}

// referencePower is (scale / the root of n) to the third power or to the first
// one, in fixed point, rounded down and up.
func referencePower(n, scale, k int) (lo, hi int) {
	square := new(big.Int).Mul(power(one, 2), power(scale, 2*k)) // of the result, times n^k
	down := new(big.Int).Sqrt(new(big.Int).Div(square, power(n, k)))
	lo = int(down.Int64())
	if down.Mul(down, down).Mul(down, power(n, k)).Cmp(square) == 0 {
		return lo, lo
	}
	return lo, lo + 1
}

func outward(lo, hi, n int) api.Span {
	for lo%n != 0 {
		lo--
	}
	for hi%n != 0 {
		hi++
	}
	return sp(lo/n, hi/n)
}

// referenceMean is Mean (k is 1) or MeanCube (k is 3) for arguments that are right.
func referenceMean(p api.Panel, x api.Point, depth, k int) (api.Span, api.Errno) {
	scale := 1 << depth
	at := []api.Point{pt(scale*x.X, scale*x.Y, scale*x.Z)}
	l := referenceParts(p, depth)
	lows, highs := 0, 0
	for _, part := range l {
		n := referenceNear(listed(part), at)
		if n == 0 {
			return api.Span{}, api.ErrNear
		}
		lo, _ := referencePower(referenceFar(listed(part), at), scale, k)
		_, hi := referencePower(n, scale, k)
		lows, highs = lows+lo, highs+hi
	}
	return outward(lows, highs, len(l)), api.OK
}

// solid returns the three times three determinant of the corners minus x.
func solid(p api.Panel, x api.Point) int {
	var v [3][3]int
	for i, c := range listed(p) {
		v[i] = axes(pt(c.X-x.X, c.Y-x.Y, c.Z-x.Z))
	}
	d := 0
	for i := range 3 {
		j, k := (i+1)%3, (i+2)%3
		d += v[0][i] * (v[1][j]*v[2][k] - v[1][k]*v[2][j])
	}
	return d
}

func referenceSolidAngle(p api.Panel, x api.Point, depth int) (api.Span, api.Errno) {
	s, e := referenceMean(p, x, depth, 3)
	if e != api.OK {
		return api.Span{}, e
	}
	d := solid(p, x)
	lo, hi := min(s.Lo*d, s.Hi*d), max(s.Lo*d, s.Hi*d)
	if lo < -api.MaxFix || hi > api.MaxFix {
		return api.Span{}, api.ErrLarge
	}
	return outward(lo, hi, 2), api.OK
}

// referenceSum adds up what each item gives: the first error counts.
func referenceSum(n int, of func(i int) (api.Span, api.Errno)) (api.Span, api.Errno) {
	var sum api.Span
	for i := range n {
		s, e := of(i)
		if e != api.OK {
			return api.Span{}, e
		}
		sum = sp(sum.Lo+s.Lo, sum.Hi+s.Hi)
	}
	if sum.Lo < -api.MaxFix || sum.Hi > api.MaxFix {
		return api.Span{}, api.ErrLarge
	}
	return sum, api.OK
}

func referencePotential(l []api.Charged, x api.Point, depth int) (api.Span, api.Errno) {
	return referenceSum(len(l), func(i int) (api.Span, api.Errno) {
		s, e := referenceMean(l[i].Panel, x, depth, 1)
		a, b := s.Lo*l[i].Charge, s.Hi*l[i].Charge
		return sp(min(a, b), max(a, b)), e
	})
}

func referenceFlux(m api.Mesh, x api.Point, depth int) (api.Span, api.Errno) {
	return referenceSum(len(m.Faces), func(i int) (api.Span, api.Errno) {
		f := m.Faces[i]
		return referenceSolidAngle(tri(m.Points[f[0]], m.Points[f[1]], m.Points[f[2]]), x, depth)
	})
}

// reaches reports whether k is large enough for a rim.
func reaches(k int, p api.Panel, depth int) bool {
	u, v := axes(pt(p.B.X-p.A.X, p.B.Y-p.A.Y, p.B.Z-p.A.Z)), axes(pt(p.C.X-p.A.X, p.C.Y-p.A.Y, p.C.Z-p.A.Z))
	n := 0
	for i := range 3 {
		j, k := (i+1)%3, (i+2)%3
		n += (u[j]*v[k] - u[k]*v[j]) * (u[j]*v[k] - u[k]*v[j])
	}
	s := new(big.Int).Sqrt(big.NewInt(int64(n)))
	left := s.Mul(s, power(k, 2))
	left.Mul(left, big.NewInt(128))
	right := power(one<<depth, 2)
	right.Mul(right, big.NewInt(3217))
	return left.Cmp(right) >= 0
}

// referenceRim goes down from a k that is large enough, in smaller and smaller steps.
func referenceRim(p api.Panel, depth int) int {
	k := 1 << 30
	for step := 1 << 29; step > 0; step /= 2 {
		for k >= step && reaches(k-step, p, depth) {
			k -= step
		}
	}
	return k
}

// referenceSeen is Between for a triangle q in the finer grid.
func referenceSeen(p, q api.Panel, depth int) api.Span {
	l := referenceParts(p, depth)
	lows, highs := 0, 0
	rim := referenceRim(p, depth)
	for _, part := range l {
		lo, _ := referencePower(referenceFar(listed(part), listed(q)), 1<<depth, 1)
		most := rim
		if n := referenceNear(listed(part), listed(q)); n > 0 {
			_, hi := referencePower(n, 1<<depth, 1)
			most = min(rim, hi)
		}
		lows, highs = lows+lo, highs+most
	}
	return outward(lows, highs, len(l))
}

func referenceBetween(p, q api.Panel, depth int) api.Span {
	return referenceSeen(p, enlarged(q, 1<<depth), depth)
}

func referenceMutual(p, q api.Panel, depth int) api.Span {
	l := referenceParts(q, depth)
	lows, highs := 0, 0
	for _, part := range l {
		s := referenceSeen(p, part, depth)
		lows, highs = lows+s.Lo, highs+s.Hi
	}
	return outward(lows, highs, len(l))
}

func somewhere(r *rand.Rand, size int) api.Point {
	return pt(r.IntN(2*size+1)-size, r.IntN(2*size+1)-size, r.IntN(2*size+1)-size)
}

// somePanel is a panel whose corners have coordinates up to size.
func somePanel(r *rand.Rand, size int) api.Panel {
	for {
		p := tri(somewhere(r, size), somewhere(r, size), somewhere(r, size))
		if shape.ValidatePanel(p) == api.OK {
			return p
		}
	}
}

// somePanels are the panels of the examples, some at the limits, and some of each size.
func somePanels(r *rand.Rand, each int) []api.Panel {
	l := []api.Panel{
		tri(pt(0, 0, 0), pt(2, 0, 0), pt(0, 2, 0)),
		tri(pt(0, 0, 0), pt(1, 0, 0), pt(0, 1, 0)),
		tri(pt(-64, -64, -64), pt(64, 64, -64), pt(-64, 64, 64)),
		tri(pt(64, 0, 0), pt(-64, 64, 0), pt(-64, -64, 0)),
		tri(pt(64, 64, 64), pt(64, 64, 63), pt(64, 63, 64)),
		tri(pt(-64, -64, -64), pt(64, 64, 63), pt(63, 64, 64)),
		tri(pt(-64, -64, -63), pt(64, 64, 64), pt(0, 0, 1)),
	}
	for _, size := range []int{1, 2, 3, 5, 10, 30, 64} {
		for range each {
			l = append(l, somePanel(r, size))
		}
	}
	return l
}

// pointsFor are points in, beside and far from a panel, and beside its box.
func pointsFor(r *rand.Rand, p api.Panel) []api.Point {
	l := []api.Point{p.A, p.B, p.C, middle(p.A, p.B), pt(256, -256, 256), pt(-256, 0, 256), somewhere(r, 256), somewhere(r, 64)}
	within := middle(middle(p.A, p.B), p.C)
	for beside := 1; beside <= 4; beside++ {
		l = append(l, pt(max(p.A.X, p.B.X, p.C.X)+beside, within.Y, within.Z), pt(within.X, min(p.A.Y, p.B.Y, p.C.Y)-beside, within.Z))
	}
	for _, reach := range []int{1, 2, 3, 7, 20} {
		v := somewhere(r, reach)
		l = append(l, pt(p.A.X+v.X, p.A.Y+v.Y, p.A.Z+v.Z), pt(p.C.X+v.X, p.C.Y+v.Y, p.C.Z-v.Z))
	}
	return l
}
