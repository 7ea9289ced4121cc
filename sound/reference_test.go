package sound_test

import (
	"math/big"
	"math/rand/v2"
	"slices"
	"testing"

	"facet/api"
	"facet/shape"
)

// The tests hold the package against a reference that follows the chapter word by
// word, with integers of any length for roots, and shares no code with it.

const one = api.One

func pt(x, y, z int) api.Point { return api.Point{X: x, Y: y, Z: z} }

func tri(a, b, c api.Point) api.Panel { return api.Panel{A: a, B: b, C: c} }

func sp(lo, hi int) api.Span { return api.Span{Lo: lo, Hi: hi} }

func pulse(p api.Panel, at, power int) api.Pulse { return api.Pulse{Panel: p, At: at, Power: power} }

func random() *rand.Rand { return rand.New(rand.NewPCG(8, 3)) }

type result struct {
	s api.Span
	e api.Errno
}

func res(s api.Span, e api.Errno) result { return result{s, e} }

func refused(e api.Errno) result { return result{e: e} }

func expect[T comparable](t *testing.T, what string, got, want T) {
	t.Helper()
	if got != want {
		t.Errorf("%s: %v, want %v", what, got, want)
	}
}

// must returns a result that has no error.
func must[T any](v T, e api.Errno) T {
	if e != api.OK {
		panic(e)
	}
	return v
}

func axes(p api.Point) [3]int { return [3]int{p.X, p.Y, p.Z} }

func listed(p api.Panel) []api.Point { return []api.Point{p.A, p.B, p.C} }

func enlarged(p api.Point, k int) api.Point { return pt(k*p.X, k*p.Y, k*p.Z) }

func middle(a, b api.Point) api.Point { return pt((a.X+b.X)/2, (a.Y+b.Y)/2, (a.Z+b.Z)/2) }

// referenceParts cuts all parts of a depth before those of the next one.
func referenceParts(p api.Panel, depth int) []api.Panel {
	l := []api.Panel{p}
	for range depth {
		var next []api.Panel
		for _, t := range l {
			a, b, c := enlarged(t.A, 2), enlarged(t.B, 2), enlarged(t.C, 2)
			p, q, r := middle(a, b), middle(b, c), middle(c, a)
			next = append(next, tri(a, p, r), tri(p, b, q), tri(r, q, c), tri(p, q, r))
		}
		l = next
	}
	return l
}

func referenceSquared(a, b api.Point) int {
	n := 0
	for k := range 3 {
		n += (axes(a)[k] - axes(b)[k]) * (axes(a)[k] - axes(b)[k])
	}
	return n
}

func referenceFar(p api.Panel, x api.Point) int {
	var l []int
	for _, c := range listed(p) {
		l = append(l, referenceSquared(c, x))
	}
	return slices.Max(l)
}

func referenceNear(p api.Panel, x api.Point) int {
	n := 0
	for k := range 3 {
		l := []int{axes(p.A)[k], axes(p.B)[k], axes(p.C)[k]}
		if lo := slices.Min(l); axes(x)[k] < lo {
			n += (lo - axes(x)[k]) * (lo - axes(x)[k])
		}
		if hi := slices.Max(l); axes(x)[k] > hi {
			n += (axes(x)[k] - hi) * (axes(x)[k] - hi)
		}
	}
	return n
}

// referenceInverse is scale / the root of n in fixed point, rounded down and up.
func referenceInverse(n, scale int) (lo, hi int) {
	top := new(big.Int).Exp(big.NewInt(int64(scale*one)), big.NewInt(2), nil)
	down := new(big.Int).Sqrt(new(big.Int).Div(top, big.NewInt(int64(n))))
	lo = int(down.Int64())
	if down.Mul(down, down).Mul(down, big.NewInt(int64(n))).Cmp(top) == 0 {
		return lo, lo
	}
	return lo, lo + 1
}

// referenceTicks is the smallest t for which speed*t is at least the root of n.
func referenceTicks(n, speed int) int {
	length := new(big.Int).Sqrt(big.NewInt(int64(n)))
	up := int(length.Int64())
	if up*up < n {
		up++
	}
	t := up / speed
	if up%speed > 0 {
		t++
	}
	return t
}

func referenceFirst(p api.Pulse, x api.Point, speed int) int {
	return p.At + referenceTicks(referenceNear(p.Panel, x), speed)
}

func referenceLast(p api.Pulse, x api.Point, speed int) int {
	return p.At + referenceTicks(referenceFar(p.Panel, x), speed)
}

// outward divides by n, and then multiplies by power.
func outward(lo, hi, n, power int) api.Span {
	for lo%n != 0 {
		lo--
	}
	for hi%n != 0 {
		hi++
	}
	lo, hi = lo/n*power, hi/n*power
	return sp(min(lo, hi), max(lo, hi))
}

// What a part may give.
const (
	silent = iota
	whole
	partly
	tooNear
)

// referencePart is what a part gives, and of which kind that is.
func referencePart(n, f, a, b, scale int) (s api.Span, kind int) {
	switch {
	case f <= a || n > b:
		return sp(0, 0), silent
	case n > a && f <= b:
		lo, _ := referenceInverse(f, scale)
		_, hi := referenceInverse(n, scale)
		return sp(lo, hi), whole
	case n == 0 && a == 0:
		return sp(0, 0), tooNear
	}
	_, hi := referenceInverse(max(n, a), scale)
	return sp(0, hi), partly
}

// kinds counts what parts gave.
type kinds [4]int

// referenceHeard is Heard for arguments that are right; it counts what the parts gave.
func (k *kinds) referenceHeard(p api.Pulse, x api.Point, speed, tick, depth int) (api.Span, api.Errno) {
	q, scale := tick-p.At, 1<<depth
	if q < 1 {
		return sp(0, 0), api.OK
	}
	a, b := scale*speed*(q-1)*scale*speed*(q-1), scale*speed*q*scale*speed*q
	l := referenceParts(p.Panel, depth)
	lows, highs := 0, 0
	e := api.OK
	for _, part := range l {
		at := enlarged(x, scale)
		s, kind := referencePart(referenceNear(part, at), referenceFar(part, at), a, b, scale)
		k[kind]++
		if kind == tooNear {
			e = api.ErrNear
		}
		lows, highs = lows+s.Lo, highs+s.Hi
	}
	if e != api.OK {
		return api.Span{}, e
	}
	return outward(lows, highs, len(l), p.Power), api.OK
}

// referenceSum adds up what each pulse gives: the first error counts.
func referenceSum(l []api.Pulse, of func(p api.Pulse) (api.Span, api.Errno)) (api.Span, api.Errno) {
	var sum api.Span
	for _, p := range l {
		s, e := of(p)
		if e != api.OK {
			return api.Span{}, e
		}
		sum = sp(sum.Lo+s.Lo, sum.Hi+s.Hi)
	}
	return sum, api.OK
}

func referenceScene(l []api.Pulse, x api.Point, speed, tick, depth int) (api.Span, api.Errno) {
	return referenceSum(l, func(p api.Pulse) (api.Span, api.Errno) {
		return new(kinds).referenceHeard(p, x, speed, tick, depth)
	})
}

func referenceTotal(l []api.Pulse, x api.Point, depth int) (api.Span, api.Errno) {
	return referenceSum(l, func(p api.Pulse) (api.Span, api.Errno) {
		parts, scale := referenceParts(p.Panel, depth), 1<<depth
		lows, highs := 0, 0
		for _, part := range parts {
			n := referenceNear(part, enlarged(x, scale))
			if n == 0 {
				return api.Span{}, api.ErrNear
			}
			lo, _ := referenceInverse(referenceFar(part, enlarged(x, scale)), scale)
			_, hi := referenceInverse(n, scale)
			lows, highs = lows+lo, highs+hi
		}
		return outward(lows, highs, len(parts), p.Power), api.OK
	})
}

// referenceImages is Images for pulses that are right.
func referenceImages(l []api.Pulse, soft bool) []api.Pulse {
	both := slices.Concat(l, l)
	for i := range l {
		p := &both[len(l)+i]
		for _, c := range []*api.Point{&p.Panel.A, &p.Panel.B, &p.Panel.C} {
			c.Z *= -1
		}
		if soft {
			p.Power *= -1
		}
	}
	return both
}

func somewhere(r *rand.Rand, size int) api.Point {
	return pt(r.IntN(2*size+1)-size, r.IntN(2*size+1)-size, r.IntN(2*size+1)-size)
}

// somePanel is a panel whose corners have coordinates up to size.
func somePanel(r *rand.Rand, size int) api.Panel {
	for {
		p := tri(somewhere(r, size), somewhere(r, size), somewhere(r, size))
		if shape.ValidatePanel(p) == api.OK {
			return p
		}
	}
}

// somePulses are n pulses with coordinates up to size.
func somePulses(r *rand.Rand, n, size int) []api.Pulse {
	var l []api.Pulse
	for range n {
		l = append(l, pulse(somePanel(r, size), r.IntN(12), r.IntN(201)-100))
	}
	return l
}

// someEar is a point from which to listen: now and then one on a panel.
func someEar(r *rand.Rand, l []api.Pulse, size int) api.Point {
	if len(l) > 0 && r.IntN(4) == 0 {
		return listed(l[r.IntN(len(l))].Panel)[r.IntN(3)]
	}
	return somewhere(r, size)
}

// above lifts pulses until no corner has a z below 0.
func above(l []api.Pulse) []api.Pulse {
	l = slices.Clone(l)
	for i := range l {
		p := &l[i].Panel
		down := min(p.A.Z, p.B.Z, p.C.Z)
		if down < 0 {
			p.A.Z, p.B.Z, p.C.Z = p.A.Z-down, p.B.Z-down, p.C.Z-down
		}
	}
	return l
}
