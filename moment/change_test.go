package moment_test

import (
	"fmt"
	"math"
	"slices"
	"testing"

	"facet/api"
	"facet/moment"
)

// limits are moments that are just valid, each number at a bound.
func limits() []api.Moments {
	var l []api.Moments
	for _, sign := range []int{1, -1} {
		l = append(l, api.Moments{Charge: sign * mostTotal, Total: mostTotal}, api.Moments{Charge: sign * 7, Total: 7}, api.Moments{Total: mostTotal})
		for i := range 3 {
			var d [3]int
			d[i] = sign * mostDipole
			l = append(l, api.Moments{Dipole: point(d)})
		}
		for k := range 6 {
			var m api.Moments
			m.Second[k] = sign * mostSecond
			l = append(l, m)
		}
	}
	return l
}

// invalid are moments that are not valid, each for one reason.
func invalid() []api.Moments {
	l := []api.Moments{
		{Total: mostTotal + 1}, {Total: -1}, {Total: math.MaxInt}, {Total: math.MinInt},
		{Charge: 1}, {Charge: -1}, {Charge: 8, Total: 7}, {Charge: -8, Total: 7}, {Charge: mostTotal + 1, Total: mostTotal},
		{Charge: math.MaxInt, Total: mostTotal}, {Charge: math.MinInt, Total: mostTotal}, {Charge: mostTotal + 1, Total: mostTotal + 1},
		{Charge: math.MinInt, Total: math.MinInt}, {Charge: -1, Total: -1},
	}
	for _, n := range []int{mostDipole + 1, -mostDipole - 1, math.MaxInt, math.MinInt} {
		l = append(l, api.Moments{Dipole: pt(n, 0, 0)}, api.Moments{Dipole: pt(0, n, 0)}, api.Moments{Dipole: pt(0, 0, n)})
	}
	for _, n := range []int{mostSecond + 1, -mostSecond - 1, math.MaxInt, math.MinInt} {
		for k := range 6 {
			var m api.Moments
			m.Second[k] = n
			l = append(l, m)
		}
	}
	return l
}

func TestValidate(t *testing.T) { // P4.2
	r := random()
	for range 1000 {
		m := someMoments(r)
		expect(t, fmt.Sprint("P4.2 Validate ", m), moment.Validate(m), api.OK)
	}
	for _, m := range append(limits(), api.Moments{}) {
		expect(t, fmt.Sprint("P4.2 Validate ", m), moment.Validate(m), api.OK)
	}
	for _, m := range invalid() {
		expect(t, fmt.Sprint("P4.2 Validate ", m), moment.Validate(m), api.ErrArg)
	}
	// Nothing else is asked: no panels have these moments.
	odd := api.Moments{Dipole: pt(1, 0, 0), Second: [6]int{-1, 5, 0, 0, 0, 0}}
	expect(t, "P4.2 Validate, nothing else", moment.Validate(odd), api.OK)
}

func TestInvalidFirst(t *testing.T) { // R2, R3: the errors of Validate come first
	wrong, zero := pt(385, 0, 0), pt(0, 0, 0)
	valid := api.Moments{Charge: mostTotal, Total: mostTotal, Dipole: pt(mostDipole, 0, 0)}
	large := api.Moments{Dipole: pt(mostDipole, mostDipole, mostDipole)}
	for _, m := range invalid() {
		what := fmt.Sprint("R2 ", m, " ")
		for _, other := range []api.Moments{{}, valid, large, m} {
			expect(t, what+"Add", res(moment.Add(m, other)), refused[api.Moments](api.ErrArg))
			expect(t, what+"Add", res(moment.Add(other, m)), refused[api.Moments](api.ErrArg))
		}
		for _, by := range []api.Point{zero, pt(128, 128, 128), pt(129, 0, 0)} {
			expect(t, what+"Shift", res(moment.Shift(m, by)), refused[api.Moments](api.ErrArg))
		}
		for _, k := range []int{1, 128, 0, 129} {
			expect(t, what+"Scale", res(moment.Scale(m, k)), refused[api.Moments](api.ErrArg))
		}
		expect(t, what+"Trace", res(moment.Trace(m)), refused[int](api.ErrArg))
		expect(t, what+"Neutral", res(moment.Neutral(m)), refused[int](api.ErrArg))
		expect(t, what+"Format", res(moment.Format(m)), refused[string](api.ErrArg))
		for _, u := range []api.Point{pt(9, 9, 9), zero, wrong} {
			for _, order := range []int{0, 1, 2, 3, -1} {
				expect(t, what+"Term", res(moment.Term(m, u, order)), refused[api.Span](api.ErrArg))
				expect(t, what+"Value", res(moment.Value(m, u, order)), refused[api.Span](api.ErrArg))
				for _, radius2 := range []int{0, mostRadius, -1} {
					expect(t, what+"Far", res(moment.Far(m, radius2, u, order)), refused[api.Span](api.ErrArg))
				}
			}
		}
	}
}

func referenceAdd(a, b api.Moments) api.Moments {
	m := api.Moments{Charge: a.Charge + b.Charge, Total: a.Total + b.Total, Dipole: plus(a.Dipole, b.Dipole)}
	for k := range m.Second {
		m.Second[k] = a.Second[k] + b.Second[k]
	}
	return m
}

func TestAdd(t *testing.T) { // P4.2
	r := random()
	seen := map[api.Errno]int{}
	for range 4000 {
		a, b := someMoments(r), someMoments(r)
		want := orLarge(referenceAdd(a, b))
		seen[want.e]++
		expect(t, fmt.Sprint("P4.2 Add ", a, b), res(moment.Add(a, b)), want)
	}
	expectSome(t, "P4.2 Add", seen, map[api.Errno]int{api.OK: 200, api.ErrLarge: 200})
	// Each bound is met, and then missed.
	for _, m := range limits() {
		zero := api.Moments{}
		expect(t, fmt.Sprint("P4.2 Add nothing to ", m), res(moment.Add(m, zero)), res(m, api.OK))
		expect(t, fmt.Sprint("P4.2 Add to nothing ", m), res(moment.Add(zero, m)), res(m, api.OK))
		if m.Total != 7 {
			expect(t, fmt.Sprint("P4.2 Add twice ", m), res(moment.Add(m, m)), refused[api.Moments](api.ErrLarge))
		}
	}
	for range 100 {
		l, center := some(r, 9, 64), somewhere(r, 64)
		k := r.IntN(10)
		a, b := must(moment.Of(l[:k], center)), must(moment.Of(l[k:], center))
		expect(t, "P4.2 Add, both together", res(moment.Add(a, b)), res(moment.Of(l, center)))
	}
}

func referenceScale(m api.Moments, k int) api.Moments {
	m.Dipole = times(k, m.Dipole)
	for i := range m.Second {
		m.Second[i] *= k * k
	}
	return m
}

func TestScale(t *testing.T) { // P4.2
	r := random()
	seen := map[api.Errno]int{}
	for range 4000 {
		m, k := someMoments(r), 1+r.IntN(1+r.IntN(128))
		want := orLarge(referenceScale(m, k))
		seen[want.e]++
		expect(t, fmt.Sprint("P4.2 Scale ", m, k), res(moment.Scale(m, k)), want)
	}
	expectSome(t, "P4.2 Scale", seen, map[api.Errno]int{api.OK: 200, api.ErrLarge: 200})
	for _, m := range limits() {
		want := orLarge(referenceScale(m, 128))
		expect(t, fmt.Sprint("P4.2 Scale ", m), res(moment.Scale(m, 1)), res(m, api.OK))
		expect(t, fmt.Sprint("P4.2 Scale ", m), res(moment.Scale(m, 128)), want)
	}
	for _, c := range []struct {
		m    api.Moments
		want api.Errno
	}{
		{api.Moments{Dipole: pt(0, mostDipole/128, 0)}, api.OK},
		{api.Moments{Dipole: pt(0, -mostDipole/128-1, 0)}, api.ErrLarge},
		{api.Moments{Second: [6]int{5: mostSecond / 128 / 128}}, api.OK},
		{api.Moments{Second: [6]int{5: -mostSecond/128/128 - 1}}, api.ErrLarge},
	} {
		_, e := moment.Scale(c.m, 128)
		expect(t, fmt.Sprint("P4.2 Scale, bound ", c.m), e, c.want)
	}
	for _, m := range []api.Moments{{}, {Dipole: pt(mostDipole, 0, 0)}} {
		for _, k := range []int{0, -1, 129, math.MaxInt, math.MinInt} {
			expect(t, "P4.2 Scale, k", res(moment.Scale(m, k)), refused[api.Moments](api.ErrArg))
		}
	}
	for range 100 {
		k := 1 + r.IntN(8)
		l, center := some(r, 5, 64/k), somewhere(r, 64/k)
		large := slices.Clone(l)
		for i, c := range l {
			large[i].Panel = tri(times(k, c.Panel.A), times(k, c.Panel.B), times(k, c.Panel.C))
		}
		expect(t, "P4.2 Scale, larger panels", res(moment.Scale(must(moment.Of(l, center)), k)), res(moment.Of(large, times(k, center))))
	}
}

func referenceShift(m api.Moments, by api.Point) api.Moments {
	d, t, second := axes(m.Dipole), axes(by), toMatrix(m.Second)
	for i := range 3 {
		for j := range 3 {
			second[i][j] += -4*d[i]*t[j] - 4*t[i]*d[j] + 12*m.Charge*t[i]*t[j]
		}
	}
	m.Dipole, m.Second = minus(m.Dipole, times(3*m.Charge, by)), second.second()
	return m
}

func TestShift(t *testing.T) { // P4.3
	r := random()
	seen := map[api.Errno]int{}
	for range 4000 {
		m, by := someMoments(r), somewhere(r, 1+r.IntN(128))
		want := orLarge(referenceShift(m, by))
		seen[want.e]++
		expect(t, fmt.Sprint("P4.3 Shift ", m, by), res(moment.Shift(m, by)), want)
	}
	expectSome(t, "P4.3 Shift", seen, map[api.Errno]int{api.OK: 200, api.ErrLarge: 200})
	for _, m := range limits() {
		expect(t, fmt.Sprint("P4.3 Shift by nothing ", m), res(moment.Shift(m, pt(0, 0, 0))), res(m, api.OK))
		for _, by := range []api.Point{pt(1, 0, 0), pt(0, -1, 0), pt(0, 0, 1), pt(128, -128, 128), pt(-128, 128, -128)} {
			expect(t, fmt.Sprint("P4.3 Shift ", m, by), res(moment.Shift(m, by)), orLarge(referenceShift(m, by)))
		}
	}
	example := must(moment.Of(many(charged(small, 2), 1), pt(0, 0, 0)))
	expect(t, "P4.3 example", res(moment.Shift(example, pt(1, 1, 0))),
		res(api.Moments{Charge: 2, Total: 2, Second: [6]int{12, -6, 0, 12, 0, 0}}, api.OK))
}

func TestShiftBounds(t *testing.T) { // P4.3
	// The dipole ends at its bound, or one beyond it.
	at := api.Moments{Charge: 1, Total: 1, Dipole: pt(0, 0, -mostDipole+3)}
	expect(t, "P4.3 dipole", must(moment.Shift(at, pt(0, 0, 1))).Dipole, pt(0, 0, -mostDipole))
	at.Dipole.Z--
	expect(t, "P4.3 dipole", res(moment.Shift(at, pt(0, 0, 1))), refused[api.Moments](api.ErrLarge))
	// So do the second moments.
	at = api.Moments{Charge: 1, Total: 1, Second: [6]int{3: mostSecond - 12}}
	expect(t, "P4.3 second moments", must(moment.Shift(at, pt(0, -1, 0))).Second[3], mostSecond)
	at.Second[3]++
	expect(t, "P4.3 second moments", res(moment.Shift(at, pt(0, -1, 0))), refused[api.Moments](api.ErrLarge))

	large := api.Moments{Charge: mostTotal, Total: mostTotal, Dipole: pt(mostDipole, mostDipole, mostDipole)}
	for _, m := range []api.Moments{{}, large} {
		for _, n := range []int{129, -129, math.MaxInt, math.MinInt} {
			for _, by := range []api.Point{pt(n, 0, 0), pt(0, n, 0), pt(0, 0, n), pt(n, n, n)} {
				expect(t, "P4.3 by", res(moment.Shift(m, by)), refused[api.Moments](api.ErrArg))
			}
		}
	}
}

func TestShiftBack(t *testing.T) { // P4.3, the consequence
	r := random()
	for k := range 300 {
		size := []int{2, 20, 64}[k%3]
		l, from, to := some(r, 1+r.IntN(6), size), somewhere(r, size), somewhere(r, size)
		a, b := must(moment.Of(l, from)), must(moment.Of(l, to))
		by := minus(to, from)
		expect(t, "P4.3 about the other center", res(moment.Shift(a, by)), res(b, api.OK))
		expect(t, "P4.3 and back", res(moment.Shift(b, times(-1, by))), res(a, api.OK))
	}
}
