package moment_test

import (
	"math/big"
	"math/rand/v2"
	"slices"
	"testing"

	"facet/api"
)

// The tests hold the package against a reference that calculates with integers and
// rational numbers of any length and shares no code with it.

const one = api.One

// The bounds that P4.2 and P4.6 name.
const (
	mostTotal  = 1 << 20
	mostDipole = 1 << 30
	mostSecond = 1 << 34
	mostRadius = 1 << 17
)

func pt(x, y, z int) api.Point { return api.Point{X: x, Y: y, Z: z} }

func tri(a, b, c api.Point) api.Panel { return api.Panel{A: a, B: b, C: c} }

func sp(lo, hi int) api.Span { return api.Span{Lo: lo, Hi: hi} }

func charged(p api.Panel, charge int) api.Charged { return api.Charged{Panel: p, Charge: charge} }

func random() *rand.Rand { return rand.New(rand.NewPCG(1, 2)) }

// result is what a function returns: with an error, the zero value.
type result[T comparable] struct {
	v T
	e api.Errno
}

func res[T comparable](v T, e api.Errno) result[T] { return result[T]{v, e} }

func refused[T comparable](e api.Errno) result[T] { return result[T]{e: e} }

func expect[T comparable](t *testing.T, what string, got, want T) {
	t.Helper()
	if got != want {
		t.Errorf("%s: %v, want %v", what, got, want)
	}
}

// expectSome expects that each kind of answer has come at least that often.
func expectSome(t *testing.T, what string, seen, least map[api.Errno]int) {
	t.Helper()
	for e, n := range least {
		if seen[e] < n {
			t.Errorf("%s: too few of a kind: %v, want %v", what, seen, least)
		}
	}
}

// must returns a result that has no error.
func must[T any](v T, e api.Errno) T {
	if e != api.OK {
		panic(e)
	}
	return v
}

func axes(p api.Point) [3]int { return [3]int{p.X, p.Y, p.Z} }

func point(a [3]int) api.Point { return pt(a[0], a[1], a[2]) }

func minus(a, b api.Point) api.Point { return pt(a.X-b.X, a.Y-b.Y, a.Z-b.Z) }

func plus(a, b api.Point) api.Point { return pt(a.X+b.X, a.Y+b.Y, a.Z+b.Z) }

func times(k int, a api.Point) api.Point { return pt(k*a.X, k*a.Y, k*a.Z) }

func listed(p api.Panel) [3]api.Point { return [3]api.Point{p.A, p.B, p.C} }

func somewhere(r *rand.Rand, size int) api.Point {
	return pt(r.IntN(2*size+1)-size, r.IntN(2*size+1)-size, r.IntN(2*size+1)-size)
}

// isFlat reports whether the sides of a triangle are along one line.
func isFlat(p api.Panel) bool {
	b, c := axes(minus(p.B, p.A)), axes(minus(p.C, p.A))
	return b[0]*c[1] == b[1]*c[0] && b[1]*c[2] == b[2]*c[1] && b[2]*c[0] == b[0]*c[2]
}

// some returns n charged panels with coordinates up to size.
func some(r *rand.Rand, n, size int) []api.Charged {
	var l []api.Charged
	for len(l) < n {
		p := tri(somewhere(r, size), somewhere(r, size), somewhere(r, size))
		if !isFlat(p) {
			l = append(l, charged(p, r.IntN(201)-100))
		}
	}
	return l
}

// amount returns a number from -most to most: 0, a bound, or one of any length.
func amount(r *rand.Rand, most int) int {
	switch r.IntN(12) {
	case 0:
		return 0
	case 1:
		return most
	case 2:
		return -most
	}
	n := 1 << r.IntN(36)
	return r.IntN(2*min(n, most)+1) - min(n, most)
}

// someMoments are valid moments, those of no panels among them.
func someMoments(r *rand.Rand) api.Moments {
	total := max(amount(r, mostTotal), 0)
	m := api.Moments{Charge: amount(r, total), Total: total}
	m.Dipole = pt(amount(r, mostDipole), amount(r, mostDipole), amount(r, mostDipole))
	for k := range m.Second {
		m.Second[k] = amount(r, mostSecond)
	}
	return m
}

// bounded reports whether the numbers of moments are within the bounds of P4.2.
func bounded(m api.Moments) bool {
	ok := m.Total >= 0 && m.Total <= mostTotal && m.Charge >= -m.Total && m.Charge <= m.Total
	for _, d := range axes(m.Dipole) {
		ok = ok && d >= -mostDipole && d <= mostDipole
	}
	for _, s := range m.Second {
		ok = ok && s >= -mostSecond && s <= mostSecond
	}
	return ok
}

// orLarge is the answer for moments that may be too large.
func orLarge(m api.Moments) result[api.Moments] {
	if !bounded(m) {
		return refused[api.Moments](api.ErrLarge)
	}
	return res(m, api.OK)
}

// matrix has the second moments, xy and yx both.
type matrix [3][3]int

func toMatrix(second [6]int) matrix {
	xx, xy, xz, yy, yz, zz := second[0], second[1], second[2], second[3], second[4], second[5]
	return matrix{{xx, xy, xz}, {xy, yy, yz}, {xz, yz, zz}}
}

func (a matrix) second() [6]int {
	return [6]int{a[0][0], a[0][1], a[0][2], a[1][1], a[1][2], a[2][2]}
}

// referenceOf integrates over the triangles: with the weights a, b, c of its
// corners, each place of a triangle is a mean of them, and over the triangle the
// mean of a is 1/3, that of a*a is 1/6, that of a*b is 1/12.
func referenceOf(l []api.Charged, center api.Point) api.Moments {
	var m api.Moments
	var dipole [3]int
	var second matrix
	for _, c := range l {
		m.Charge += c.Charge
		m.Total += max(c.Charge, -c.Charge)
		for v, p := range listed(c.Panel) {
			for i := range 3 {
				dipole[i] += c.Charge * axes(minus(p, center))[i]
			}
			for w, q := range listed(c.Panel) {
				twelfths := 1
				if v == w {
					twelfths = 2
				}
				for i := range 3 {
					for j := range 3 {
						second[i][j] += c.Charge * twelfths * axes(minus(p, center))[i] * axes(minus(q, center))[j]
					}
				}
			}
		}
	}
	m.Dipole, m.Second = point(dipole), second.second()
	return m
}

func referenceRadius2(l []api.Charged, center api.Point) int {
	most := 0
	for _, c := range l {
		for _, p := range listed(c.Panel) {
			most = max(most, square(minus(p, center)))
		}
	}
	return most
}

func square(u api.Point) int { return u.X*u.X + u.Y*u.Y + u.Z*u.Z }

func whole(n int) *big.Int { return big.NewInt(int64(n)) }

func product(l ...*big.Int) *big.Int {
	n := whole(1)
	for _, k := range l {
		n.Mul(n, k)
	}
	return n
}

// floor and ceil divide by a number above 0.
func floor(n, d *big.Int) *big.Int { return new(big.Int).Div(n, d) }

func ceil(n, d *big.Int) *big.Int {
	q := floor(new(big.Int).Neg(n), d)
	return q.Neg(q)
}

// rootDown and rootUp are the root of n in fixed point.
func rootDown(n int) *big.Int {
	return new(big.Int).Sqrt(product(whole(n), whole(one), whole(one)))
}

func rootUp(n int) *big.Int {
	k := rootDown(n)
	if product(k, k).Cmp(product(whole(n), whole(one), whole(one))) < 0 {
		k.Add(k, whole(1))
	}
	return k
}

// bounds are a span whose numbers may be of any length.
type bounds struct{ lo, hi *big.Int }

func (b bounds) tooLarge() bool {
	limit := whole(api.MaxFix)
	return b.lo.CmpAbs(limit) > 0 || b.hi.CmpAbs(limit) > 0
}

func (b bounds) result() result[api.Span] {
	if b.tooLarge() {
		return refused[api.Span](api.ErrLarge)
	}
	return res(sp(int(b.lo.Int64()), int(b.hi.Int64())), api.OK)
}

// referenceInverse is the least span of 1 / the root of n.
func referenceInverse(n int) bounds {
	lo := new(big.Int).Sqrt(floor(product(whole(one), whole(one)), whole(n)))
	hi := new(big.Int).Set(lo)
	if product(hi, hi, whole(n)).Cmp(product(whole(one), whole(one))) < 0 {
		hi.Add(hi, whole(1))
	}
	return bounds{lo, hi}
}

// fraction is what the order 1 or 2 has beside the inverse of the length of u.
func fraction(m api.Moments, u api.Point, order int) *big.Rat {
	v, n := axes(u), square(u)
	if order == 1 {
		top := new(big.Int)
		for i := range 3 {
			top.Add(top, product(whole(axes(m.Dipole)[i]), whole(v[i])))
		}
		return new(big.Rat).SetFrac(top, whole(3*n))
	}
	top := new(big.Int)
	for i, row := range toMatrix(m.Second) {
		for j, s := range row {
			top.Add(top, product(whole(3), whole(v[i]), whole(s), whole(v[j])))
		}
		top.Sub(top, product(whole(n), whole(row[i])))
	}
	return new(big.Rat).SetFrac(top, product(whole(24), whole(n), whole(n)))
}

// referenceTerm is P4.5 for moments, a vector and an order that have no other error.
func referenceTerm(m api.Moments, u api.Point, order int) result[api.Span] {
	inverse := referenceInverse(square(u))
	if order == 0 {
		return extremes(bounds{whole(m.Charge), whole(m.Charge)}, inverse, whole(1)).result()
	}
	q := fraction(m, u, order)
	top := product(q.Num(), whole(one))
	least := bounds{floor(top, q.Denom()), ceil(top, q.Denom())}
	if least.tooLarge() {
		return refused[api.Span](api.ErrLarge)
	}
	return extremes(least, inverse, whole(one)).result()
}

// extremes are the smallest and the greatest product of bounds, divided by d.
func extremes(a, b bounds, d *big.Int) bounds {
	l := []*big.Int{product(a.lo, b.lo), product(a.lo, b.hi), product(a.hi, b.lo), product(a.hi, b.hi)}
	least, most := slices.MinFunc(l, (*big.Int).Cmp), slices.MaxFunc(l, (*big.Int).Cmp)
	return bounds{floor(least, d), ceil(most, d)}
}

func referenceValue(m api.Moments, u api.Point, order int) result[api.Span] {
	sum := sp(0, 0)
	for k := range order + 1 {
		s := referenceTerm(m, u, k)
		if s.e != api.OK {
			return s
		}
		sum.Lo += s.v.Lo
		sum.Hi += s.v.Hi
	}
	return bounds{whole(sum.Lo), whole(sum.Hi)}.result()
}

// referenceRest is P4.6 for arguments that are in range.
func referenceRest(total, radius2 int, u api.Point, order int) result[int] {
	a, r := rootUp(radius2), rootDown(square(u))
	if r.Cmp(a) <= 0 {
		return refused[int](api.ErrNear)
	}
	share := ceil(product(a, whole(one)), r)
	e := share
	for range order {
		e = ceil(product(e, share), whole(one))
	}
	rest := ceil(product(whole(total), e, whole(one)), new(big.Int).Sub(r, a))
	if rest.Cmp(whole(api.MaxFix)) > 0 {
		return refused[int](api.ErrLarge)
	}
	return res(int(rest.Int64()), api.OK)
}

// referenceFar is P4.6 for arguments that are in range, and u that is not 0 0 0.
func referenceFar(m api.Moments, radius2 int, u api.Point, order int) result[api.Span] {
	value := referenceValue(m, u, order)
	if value.e != api.OK {
		return value
	}
	rest := referenceRest(m.Total, radius2, u, order)
	if rest.e != api.OK {
		return refused[api.Span](rest.e)
	}
	return bounds{whole(value.v.Lo - rest.v), whole(value.v.Hi + rest.v)}.result()
}
