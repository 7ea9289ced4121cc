package moment_test

import (
	"fmt"
	"math"
	"math/rand/v2"
	"testing"

	"facet/api"
	"facet/moment"
)

func TestTrace(t *testing.T) { // P4.4
	r := random()
	for range 500 {
		m := someMoments(r)
		a := toMatrix(m.Second)
		expect(t, fmt.Sprint("P4.4 Trace ", m), res(moment.Trace(m)), res(a[0][0]+a[1][1]+a[2][2], api.OK))
	}
	for k, want := range []int{1, 0, 0, 1, 0, 1} {
		var m api.Moments
		m.Second[k] = -mostSecond
		expect(t, fmt.Sprint("P4.4 Trace ", m), res(moment.Trace(m)), res(-want*mostSecond, api.OK))
	}
	full := api.Moments{Second: [6]int{0: mostSecond, 3: mostSecond, 5: mostSecond}}
	expect(t, "P4.4 Trace", res(moment.Trace(full)), res(3*mostSecond, api.OK))
}

func TestNeutral(t *testing.T) { // P4.4
	expect(t, "P4.4 Neutral of none", res(moment.Neutral(api.Moments{})), res(3, api.OK))
	expect(t, "P4.4 Neutral, Total alone", res(moment.Neutral(api.Moments{Total: 9})), res(3, api.OK))
	for _, charge := range []int{0, 1, -1} {
		for i := range 4 {
			for k := range 7 {
				m := api.Moments{Charge: charge, Total: 1}
				var d [3]int
				want := 3
				if k < 6 {
					m.Second[k], want = -1, 2
				}
				if i < 3 {
					d[i], want = -1, 1
				}
				if charge != 0 {
					want = 0
				}
				m.Dipole = point(d)
				expect(t, fmt.Sprint("P4.4 Neutral ", m), res(moment.Neutral(m)), res(want, api.OK))
			}
		}
	}
	// Example 3.
	moved := tri(pt(0, 0, 5), pt(3, 0, 5), pt(0, 3, 5))
	about := func(q api.Panel) api.Moments {
		return must(moment.Of([]api.Charged{charged(small, 4), charged(q, -4)}, pt(7, 7, 7)))
	}
	expect(t, "P4.4 example 3", about(moved).Charge, 0)
	expect(t, "P4.4 example 3", res(moment.Neutral(about(moved))), res(1, api.OK))
	larger := tri(pt(-1, -1, 0), pt(5, -1, 0), pt(-1, 5, 0)) // about the same middle
	expect(t, "P4.4 equal centers", res(moment.Neutral(about(larger))), res(2, api.OK))
	expect(t, "P4.4 nothing left", res(moment.Neutral(about(small))), res(3, api.OK))
}

// someVector returns a vector from which a far field may be asked.
func someVector(r *rand.Rand) api.Point {
	for {
		if u := somewhere(r, []int{1, 2, 5, 30, 384}[r.IntN(5)]); u != pt(0, 0, 0) {
			return u
		}
	}
}

// full has all moments at their bounds, those of two axes with signs of their own.
func full(same, mixed int) api.Moments {
	d, a, b := same*mostDipole, same*mostSecond, mixed*mostSecond
	return api.Moments{Charge: same * mostTotal, Total: mostTotal, Dipole: pt(d, d, d), Second: [6]int{a, b, b, a, b, a}}
}

func TestTerm(t *testing.T) { // P4.5
	r := random()
	seen := map[api.Errno]int{}
	for range 6000 {
		m, u := someMoments(r), someVector(r)
		for order := range 3 {
			want := referenceTerm(m, u, order)
			seen[want.e]++
			expect(t, fmt.Sprint("P4.5 Term ", m, u, order), res(moment.Term(m, u, order)), want)
			want = referenceValue(m, u, order)
			seen[want.e]++
			expect(t, fmt.Sprint("P4.5 Value ", m, u, order), res(moment.Value(m, u, order)), want)
		}
	}
	expectSome(t, "P4.5", seen, map[api.Errno]int{api.OK: 5000, api.ErrLarge: 500})
	for _, u := range []api.Point{pt(384, 384, 384), pt(-384, 384, -384), pt(384, 0, 0), pt(0, -384, 0), pt(0, 0, 384), pt(1, 0, 0), pt(0, -1, 0), pt(1, 1, 1)} {
		for _, m := range append(limits(), full(1, 1), full(1, -1), full(-1, 1), full(-1, -1)) {
			for order := range 3 {
				expect(t, fmt.Sprint("P4.5 Term ", m, u, order), res(moment.Term(m, u, order)), referenceTerm(m, u, order))
				expect(t, fmt.Sprint("P4.5 Value ", m, u, order), res(moment.Value(m, u, order)), referenceValue(m, u, order))
			}
		}
	}
}

func TestTermExamples(t *testing.T) { // P4.5
	m := must(moment.Of(many(charged(small, 2), 1), pt(0, 0, 0)))
	u := pt(2, 4, 4) // 6 long
	// 2/6; 36 / (3 * 36) / 6; (3 * 1008 - 36 * 72) / (24 * 36 * 36) / 6.
	for order, want := range []api.Span{sp(2*174762, 2*174763), sp(58253, 58255), sp(2427, 2428)} {
		expect(t, "P4.5 Term", res(moment.Term(m, u, order)), res(want, api.OK))
	}
	expect(t, "P4.5 Value", res(moment.Value(m, u, 0)), res(sp(349524, 349526), api.OK))
	expect(t, "P4.5 Value", res(moment.Value(m, u, 1)), res(sp(407777, 407781), api.OK))
	expect(t, "P4.5 Value", res(moment.Value(m, u, 2)), res(sp(410204, 410209), api.OK))
	for order := range 3 {
		expect(t, "P4.5 Term of none", res(moment.Term(api.Moments{}, u, order)), res(sp(0, 0), api.OK))
		expect(t, "P4.5 Value of none", res(moment.Value(api.Moments{}, u, order)), res(sp(0, 0), api.OK))
	}
}

// along has moments whose terms, seen from 1 0 0, are charge, dipole/3 and xx/12.
func along(charge, dipole, xx int) api.Moments {
	return api.Moments{Charge: charge, Total: mostTotal, Dipole: pt(dipole, 0, 0), Second: [6]int{xx}}
}

func TestTermLarge(t *testing.T) { // P4.5
	u, back := pt(1, 0, 0), pt(-1, 0, 0)
	most := res(sp(api.MaxFix, api.MaxFix), api.OK)
	least := res(sp(-api.MaxFix, -api.MaxFix), api.OK)
	large := refused[api.Span](api.ErrLarge)
	const q = 1 << 20 // the greatest quotient
	for _, c := range []struct {
		name  string
		m     api.Moments
		u     api.Point
		order int
		want  result[api.Span]
	}{
		{"charge", along(q, 0, 0), u, 0, most},
		{"negative charge", along(-q, 0, 0), u, 0, least},
		{"dipole", along(0, 3*q, 0), u, 1, most},
		{"negative dipole", along(0, 3*q, 0), back, 1, least},
		{"dipole beyond", along(0, 3*q+1, 0), u, 1, large},
		{"negative dipole beyond", along(0, 3*q+1, 0), back, 1, large},
		{"dipole far beyond", along(0, mostDipole, 0), u, 1, large},
		{"second", along(0, 0, 12*q), u, 2, most},
		{"negative second", along(0, 0, -12*q), u, 2, least},
		{"second beyond", along(0, 0, 12*q+1), u, 2, large},
		{"negative second beyond", along(0, 0, -12*q-1), u, 2, large},
		{"second far beyond", along(0, 0, mostSecond), u, 2, large},
		{"negative second far beyond", along(0, 0, -mostSecond), u, 2, large},
		// The scalar product is above MaxInt, but the quotient is valid.
		{"long dipole", api.Moments{Dipole: pt(mostDipole, mostDipole, mostDipole)}, pt(384, 384, 384), 1,
			res(sp(1468938467, 1469870536), api.OK)},
		// The dipole is too large to be seen from there, the charge alone is not.
		{"charge alone", along(1, mostDipole, mostSecond), u, 0, res(sp(one, one), api.OK)},
	} {
		expect(t, "P4.5 Term, "+c.name, res(moment.Term(c.m, c.u, c.order)), c.want)
		expect(t, "P4.5 reference, "+c.name, referenceTerm(c.m, c.u, c.order), c.want)
	}
}

func TestValueLarge(t *testing.T) { // P4.5
	u := pt(1, 0, 0)
	large := refused[api.Span](api.ErrLarge)
	const q = 1 << 20
	for _, c := range []struct {
		name  string
		m     api.Moments
		order int
		want  result[api.Span]
	}{
		{"charge", along(q, 3, 12), 0, res(sp(api.MaxFix, api.MaxFix), api.OK)},
		{"sum beyond", along(q, 3, -12), 1, large},
		{"sum back", along(q, 3, -12), 2, res(sp(api.MaxFix, api.MaxFix), api.OK)},
		{"sum within", along(q, -3, 0), 1, res(sp(api.MaxFix-one, api.MaxFix-one), api.OK)},
		{"a little beyond", along(-q, -1, 0), 1, large},
		{"most and least", along(q, -3*q, -12*q), 2, res(sp(-api.MaxFix, -api.MaxFix), api.OK)},
		{"no dipole asked", along(1, mostDipole, mostSecond), 0, res(sp(one, one), api.OK)},
		{"dipole asked", along(1, mostDipole, 0), 1, large},
		{"no second asked", along(1, 3, mostSecond), 1, res(sp(2*one, 2*one), api.OK)},
		{"second asked", along(1, 3, mostSecond), 2, large},
	} {
		expect(t, "P4.5 Value, "+c.name, res(moment.Value(c.m, u, c.order)), c.want)
	}
}

func TestTermErrors(t *testing.T) { // P4.5, P4.6, R1, R3, R6
	arg, zero := refused[api.Span](api.ErrArg), refused[api.Span](api.ErrZero)
	tooLarge := along(mostTotal, mostDipole, mostSecond)
	for _, m := range []api.Moments{{}, along(1, 2, 3), tooLarge} {
		for _, n := range []int{385, -385, math.MaxInt, math.MinInt} {
			for _, u := range []api.Point{pt(n, 0, 0), pt(0, n, 0), pt(0, 0, n), pt(n, n, n)} {
				for _, order := range []int{0, 1, 2, 3} {
					expect(t, "P4.5 Term, u", res(moment.Term(m, u, order)), arg)
					expect(t, "P4.5 Value, u", res(moment.Value(m, u, order)), arg)
					expect(t, "P4.6 Far, u", res(moment.Far(m, 0, u, order)), arg)
					expect(t, "P4.6 Rest, u", res(moment.Rest(0, 0, u, order)), refused[int](api.ErrArg))
				}
			}
		}
		for _, order := range []int{-1, 3, math.MaxInt, math.MinInt} {
			for _, u := range []api.Point{pt(0, 0, 0), pt(1, 0, 0), pt(384, 384, 384)} {
				expect(t, "P4.5 Term, order", res(moment.Term(m, u, order)), arg)
				expect(t, "P4.5 Value, order", res(moment.Value(m, u, order)), arg)
				expect(t, "P4.6 Far, order", res(moment.Far(m, mostRadius, u, order)), arg)
				expect(t, "P4.6 Rest, order", res(moment.Rest(mostTotal, mostRadius, u, order)), refused[int](api.ErrArg))
			}
		}
		for order := range 3 {
			expect(t, "P4.5 Term, 0 0 0", res(moment.Term(m, pt(0, 0, 0), order)), zero)
			expect(t, "P4.5 Value, 0 0 0", res(moment.Value(m, pt(0, 0, 0), order)), zero)
			for _, radius2 := range []int{0, 1, mostRadius, -1, mostRadius + 1} {
				expect(t, "P4.6 Far, 0 0 0", res(moment.Far(m, radius2, pt(0, 0, 0), order)), zero)
			}
		}
	}
}

func TestRest(t *testing.T) { // P4.6
	r := random()
	seen := map[api.Errno]int{}
	for range 12000 {
		total, u, order := max(amount(r, mostTotal), 0), someVector(r), r.IntN(3)
		radius2 := min(r.IntN(square(u)+2), mostRadius)
		want := referenceRest(total, radius2, u, order)
		seen[want.e]++
		expect(t, fmt.Sprint("P4.6 Rest ", total, radius2, u, order), res(moment.Rest(total, radius2, u, order)), want)
	}
	expectSome(t, "P4.6 Rest", seen, map[api.Errno]int{api.OK: 5000, api.ErrNear: 100, api.ErrLarge: 100})
}

func TestRestExamples(t *testing.T) { // P4.6
	large, near := refused[int](api.ErrLarge), refused[int](api.ErrNear)
	for _, c := range []struct {
		name           string
		total, radius2 int
		u              api.Point
		order          int
		want           result[int]
	}{
		{"no panels", 0, 0, pt(1, 0, 0), 0, res(0, api.OK)},
		{"no panels", 0, 0, pt(-384, 384, 384), 2, res(0, api.OK)},
		{"all at the center", mostTotal, 0, pt(0, 0, 1), 1, res(0, api.OK)},
		{"no charge", 0, 8, pt(3, 0, 0), 1, res(0, api.OK)},
		{"half", 1, 1, pt(0, 2, 0), 0, res(one/2, api.OK)},
		{"half of half", 1, 1, pt(0, 2, 0), 1, res(one/4, api.OK)},
		{"an eighth", 5, 1, pt(0, 2, 0), 2, res(5*one/8, api.OK)},
		{"a third, up", 1, 1, pt(3, 0, 0), 0, res(174763, api.OK)},
		{"a ninth, up twice", 1, 1, pt(3, 0, 0), 1, res(58255, api.OK)},
		{"a 27th, up three times", 1, 1, pt(3, 0, 0), 2, res(19419, api.OK)},
		{"just near", 1, 9, pt(3, 0, 0), 0, near},
		{"a root, just near", 1, 2, pt(1, 1, 0), 0, near},
		{"inside", 1, 10, pt(3, 0, 0), 2, near},
		{"at the center", 0, 0, pt(0, 0, 0), 0, near},
		{"near and no charge", 0, mostRadius, pt(0, 0, 0), 2, near},
		{"greatest radius", 1, mostRadius, pt(361, 26, 5), 0, near},
		{"just MaxFix", 69632, 73489, pt(201, 182, 0), 0, res(api.MaxFix, api.OK)},
		{"beyond MaxFix", 69633, 73489, pt(201, 182, 0), 0, large},
		{"just MaxFix", 61440, 32164, pt(150, 98, 9), 2, res(api.MaxFix, api.OK)},
		{"beyond MaxFix", 61441, 32164, pt(150, 98, 9), 2, large},
		{"greatest radius, and all around it", mostTotal, mostRadius, pt(362, 5, 2), 0, large},
	} {
		expect(t, "P4.6 Rest, "+c.name, res(moment.Rest(c.total, c.radius2, c.u, c.order)), c.want)
		expect(t, "P4.6 reference, "+c.name, referenceRest(c.total, c.radius2, c.u, c.order), c.want)
	}
}

func TestRestErrors(t *testing.T) { // P4.6, R1, R6
	arg := refused[int](api.ErrArg)
	for _, u := range []api.Point{pt(0, 0, 0), pt(1, 0, 0), pt(384, 384, 384)} { // near, near or large, far
		for _, order := range []int{0, 1, 2} {
			for _, total := range []int{-1, mostTotal + 1, math.MaxInt, math.MinInt} {
				for _, radius2 := range []int{0, mostRadius} {
					expect(t, "P4.6 Rest, total", res(moment.Rest(total, radius2, u, order)), arg)
				}
			}
			for _, radius2 := range []int{-1, mostRadius + 1, math.MaxInt, math.MinInt} {
				for _, total := range []int{0, mostTotal} {
					expect(t, "P4.6 Rest, radius2", res(moment.Rest(total, radius2, u, order)), arg)
				}
			}
		}
	}
	for _, total := range []int{0, mostTotal} {
		for _, radius2 := range []int{0, mostRadius} {
			far := pt(384, 384, 384)
			expect(t, "P4.6 Rest, bounds", res(moment.Rest(total, radius2, far, 2)), referenceRest(total, radius2, far, 2))
		}
	}
}

func TestFar(t *testing.T) { // P4.6
	r := random()
	seen := map[api.Errno]int{}
	for range 8000 {
		m, u, order := someMoments(r), someVector(r), r.IntN(3)
		radius2 := min(r.IntN(square(u)+2), mostRadius)
		want := referenceFar(m, radius2, u, order)
		seen[want.e]++
		expect(t, fmt.Sprint("P4.6 Far ", m, radius2, u, order), res(moment.Far(m, radius2, u, order)), want)
	}
	expectSome(t, "P4.6 Far", seen, map[api.Errno]int{api.OK: 1000, api.ErrNear: 50, api.ErrLarge: 1000})
}

func TestFarErrors(t *testing.T) { // P4.6, R1
	u := pt(1, 0, 0)
	refuse := func(name string, m api.Moments, radius2 int, u api.Point, order int, e api.Errno) {
		t.Helper()
		expect(t, "P4.6 Far, "+name, res(moment.Far(m, radius2, u, order)), refused[api.Span](e))
	}
	charge := api.Moments{Charge: 1, Total: mostTotal}
	for order := range 3 {
		for _, radius2 := range []int{-1, mostRadius + 1, math.MaxInt, math.MinInt} {
			refuse("radius2", charge, radius2, u, order, api.ErrArg)
		}
		refuse("near", charge, 1, u, order, api.ErrNear)
		refuse("near, also of none", api.Moments{}, 1, u, order, api.ErrNear)
	}
	tooLarge := along(0, mostDipole, 0)
	refuse("Value before radius2", tooLarge, -1, u, 1, api.ErrLarge)
	refuse("Value before near", tooLarge, 1, u, 1, api.ErrLarge)
	refuse("no such Value", tooLarge, 1, u, 0, api.ErrNear)
	refuse("Rest large", api.Moments{Total: 69633}, 73489, pt(201, 182, 0), 0, api.ErrLarge)

	// Value and Rest have no error, but both together do.
	refuse("raised", api.Moments{Charge: 69632, Total: 69632}, 73489, pt(201, 182, 0), 0, api.ErrLarge)
	refuse("lowered", api.Moments{Charge: -69632, Total: 69632}, 73489, pt(201, 182, 0), 0, api.ErrLarge)
	most := api.Moments{Total: 69632}
	expect(t, "P4.6 Far, as wide as may be", res(moment.Far(most, 73489, pt(201, 182, 0), 0)), res(sp(-api.MaxFix, api.MaxFix), api.OK))
	full := api.Moments{Charge: mostTotal, Total: mostTotal}
	expect(t, "P4.6 Far, as large as may be", res(moment.Far(full, 0, u, 2)), res(sp(api.MaxFix, api.MaxFix), api.OK))
	expect(t, "P4.6 Far of none", res(moment.Far(api.Moments{}, 0, u, 2)), res(sp(0, 0), api.OK))
}
