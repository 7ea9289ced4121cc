package span_test

import (
	"math"
	"math/big"
	"math/rand/v2"
	"testing"

	"facet/api"
	"facet/span"
)

// The tests hold the package against a reference that calculates with rational
// numbers of any length and shares no code with it.

const one = api.One

func sp(lo, hi int) api.Span { return api.Span{Lo: lo, Hi: hi} }

func rat(n, d int) *big.Rat { return big.NewRat(int64(n), int64(d)) }

// down is floor(r * One), up is ceil(r * One).
func down(r *big.Rat) *big.Int {
	n := new(big.Int).Mul(r.Num(), big.NewInt(one))
	q, m := new(big.Int).DivMod(n, r.Denom(), new(big.Int)) // Euclidean: the remainder is not below 0
	_ = m
	return q
}

func up(r *big.Rat) *big.Int {
	n := down(new(big.Rat).Neg(r))
	return n.Neg(n)
}

// rootDown is floor(root(r) * One), rootUp is ceil(root(r) * One).
func rootDown(r *big.Rat) *big.Int {
	n := new(big.Int).Mul(r.Num(), big.NewInt(one*one))
	return n.Sqrt(n.Div(n, r.Denom()))
}

func rootUp(r *big.Rat) *big.Int {
	k := rootDown(r)
	square := new(big.Rat).SetFrac(new(big.Int).Mul(k, k), big.NewInt(one*one))
	if square.Cmp(r) < 0 {
		k.Add(k, big.NewInt(1))
	}
	return k
}

// reference is the answer that P1 asks for, given the exact rounded bounds.
func reference(lo, hi *big.Int) (api.Span, api.Errno) {
	limit := big.NewInt(api.MaxFix)
	if lo.CmpAbs(limit) > 0 || hi.CmpAbs(limit) > 0 {
		return api.Span{}, api.ErrLarge
	}
	return sp(int(lo.Int64()), int(hi.Int64())), api.OK
}

// exact is the answer for a set of numbers with these bounds.
func exact(l ...*big.Rat) (api.Span, api.Errno) {
	lo, hi := l[0], l[0]
	for _, r := range l {
		if r.Cmp(lo) < 0 {
			lo = r
		}
		if r.Cmp(hi) > 0 {
			hi = r
		}
	}
	return reference(down(lo), up(hi))
}

type result struct {
	s api.Span
	e api.Errno
}

func res(s api.Span, e api.Errno) result { return result{s, e} }

func expect(t *testing.T, what string, got, want result) {
	t.Helper()
	if got != want {
		t.Errorf("%s: %v, want %v", what, got, want)
	}
}

func refused(e api.Errno) result { return result{e: e} }

// invalid are spans that are not valid, each for one reason.
func invalid() []api.Span {
	return []api.Span{
		sp(1, 0), sp(api.MaxFix, -api.MaxFix), sp(0, api.MaxFix+1), sp(-api.MaxFix-1, 0),
		sp(-api.MaxFix-1, api.MaxFix+1), sp(api.MaxFix+1, api.MaxFix+1), sp(-api.MaxFix-1, -api.MaxFix-1),
		sp(math.MinInt, math.MaxInt), sp(math.MaxInt, math.MinInt), sp(math.MinInt, math.MinInt), sp(math.MaxInt, math.MaxInt),
	}
}

// numbers are whole numbers from -MaxInt to MaxInt: the edges, and some of each length.
func numbers(r *rand.Rand, more int) []int {
	l := []int{0, 1, -1, 2, 3, -7, one - 1, one, one + 1, -one, -one - 1, 1<<39 + 1, api.MaxInt - 1, api.MaxInt, -api.MaxInt, -api.MaxInt + 1}
	for range more {
		n := int(r.Int64N(1<<r.IntN(41) + 1))
		if r.IntN(2) == 0 {
			n = -n
		}
		l = append(l, n)
	}
	return l
}

// spans are valid spans: the edges, and some of each length.
func spans(r *rand.Rand, more int) []api.Span {
	l := []api.Span{
		{}, sp(0, 1), sp(-1, 0), sp(-1, 1), sp(1, 1), sp(-1, -1), sp(one, one), sp(-one, -one), sp(-one, 2*one), sp(3*one, 4*one),
		sp(api.MaxFix, api.MaxFix), sp(-api.MaxFix, -api.MaxFix), sp(-api.MaxFix, api.MaxFix), sp(0, api.MaxFix), sp(-api.MaxFix, 0), sp(1, api.MaxFix),
	}
	n := numbers(r, 2*more)
	n = n[len(n)-2*more:]
	for i := range more {
		l = append(l, sp(min(n[2*i], n[2*i+1]), max(n[2*i], n[2*i+1])))
	}
	return l
}

func random() *rand.Rand { return rand.New(rand.NewPCG(1, 2)) }

func TestValid(t *testing.T) { // P1.1
	for _, s := range spans(random(), 100) {
		if !span.Valid(s) {
			t.Error("P1.1: valid:", s)
		}
	}
	for _, s := range invalid() {
		if span.Valid(s) {
			t.Error("P1.1: not valid:", s)
		}
	}
}

func TestQuotient(t *testing.T) { // P1.1
	l := numbers(random(), 100)
	for _, n := range l {
		w, e := exact(rat(n, 1))
		expect(t, "P1.1 Of", res(span.Of(n)), res(w, e))
		expect(t, "P1.1 Quotient by 0", res(span.Quotient(n, 0)), refused(api.ErrArg))
		for _, d := range l {
			if d != 0 {
				w, e := exact(rat(n, d))
				expect(t, "P1.1 Quotient", res(span.Quotient(n, d)), res(w, e))
			}
		}
	}
	expect(t, "P1.1 example", res(span.Quotient(1, 3)), res(sp(349525, 349526), api.OK))
	expect(t, "P1.1 example", res(span.Quotient(-1, 3)), res(sp(-349526, -349525), api.OK))
	expect(t, "P1.1 edge", res(span.Of(1<<20)), res(sp(api.MaxFix, api.MaxFix), api.OK))
	expect(t, "P1.1 edge", res(span.Of(-1<<20)), res(sp(-api.MaxFix, -api.MaxFix), api.OK))
	expect(t, "P1.1 edge", res(span.Of(1<<20+1)), refused(api.ErrLarge))
	expect(t, "P1.1 edge", res(span.Of(-1<<20-1)), refused(api.ErrLarge))
	for _, n := range []int{api.MaxInt + 1, -api.MaxInt - 1, math.MaxInt, math.MinInt} {
		expect(t, "P1.1 Of", res(span.Of(n)), refused(api.ErrArg))
		expect(t, "P1.1 Quotient", res(span.Quotient(n, 1)), refused(api.ErrArg))
		expect(t, "P1.1 Quotient", res(span.Quotient(n, 0)), refused(api.ErrArg))
		expect(t, "P1.1 Quotient", res(span.Quotient(1, n)), refused(api.ErrArg))
	}
}

type pairOperation struct {
	name string
	do   func(a, b api.Span) (api.Span, api.Errno)
	of   func(z, x, y *big.Rat) *big.Rat
}

func pairOperations() []pairOperation {
	return []pairOperation{
		{"Add", span.Add, (*big.Rat).Add},
		{"Sub", span.Sub, (*big.Rat).Sub},
		{"Mul", span.Mul, (*big.Rat).Mul},
		{"Div", span.Div, (*big.Rat).Quo},
	}
}

func TestPairOperations(t *testing.T) { // P1.2
	l := spans(random(), 60)
	for _, o := range pairOperations() {
		for _, a := range l {
			for _, b := range l {
				if o.name == "Div" && b.Lo <= 0 && b.Hi >= 0 {
					expect(t, "P1.2 Div by 0", res(o.do(a, b)), refused(api.ErrZero))
					continue
				}
				var ends []*big.Rat
				for _, x := range []int{a.Lo, a.Hi} {
					for _, y := range []int{b.Lo, b.Hi} {
						ends = append(ends, o.of(new(big.Rat), rat(x, one), rat(y, one)))
					}
				}
				w, e := exact(ends...)
				expect(t, "P1.2 "+o.name, res(o.do(a, b)), res(w, e))
			}
		}
		for _, bad := range invalid() {
			for _, s := range []api.Span{{}, sp(1, 1), sp(-api.MaxFix, api.MaxFix), sp(1, 0)} {
				expect(t, "P1.2 "+o.name, res(o.do(bad, s)), refused(api.ErrArg))
				expect(t, "P1.2 "+o.name, res(o.do(s, bad)), refused(api.ErrArg))
			}
		}
	}
	expect(t, "P1.2 example", res(span.Mul(sp(-one, 2*one), sp(3*one, 4*one))), res(sp(-4*one, 8*one), api.OK))
	expect(t, "P1.2 zero before large", res(span.Div(sp(api.MaxFix, api.MaxFix), sp(0, 1))), refused(api.ErrZero))
	expect(t, "P1.2 large", res(span.Div(sp(api.MaxFix, api.MaxFix), sp(1, 1))), refused(api.ErrLarge))
	expect(t, "P1.2 large", res(span.Add(sp(-api.MaxFix, 0), sp(-1, 0))), refused(api.ErrLarge))
	expect(t, "P1.2 large", res(span.Sub(sp(0, api.MaxFix), sp(-1, 0))), refused(api.ErrLarge))
}

func TestSquareAndRoot(t *testing.T) { // P1.2
	for _, a := range spans(random(), 500) {
		lo, hi := rat(a.Lo, one), rat(a.Hi, one)
		ends := []*big.Rat{new(big.Rat).Mul(lo, lo), new(big.Rat).Mul(hi, hi)}
		if a.Lo <= 0 && a.Hi >= 0 {
			ends = append(ends, new(big.Rat))
		}
		w, e := exact(ends...)
		expect(t, "P1.2 Square", res(span.Square(a)), res(w, e))
		if a.Lo < 0 {
			expect(t, "P1.2 Root below 0", res(span.Root(a)), refused(api.ErrArg))
			continue
		}
		w, e = reference(rootDown(lo), rootUp(hi))
		expect(t, "P1.2 Root", res(span.Root(a)), res(w, e))
	}
	expect(t, "P1.2 example", res(span.Square(sp(-one, 2*one))), res(sp(0, 4*one), api.OK))
	expect(t, "P1.2 edge", res(span.Square(sp(1<<30, 1<<30))), res(sp(api.MaxFix, api.MaxFix), api.OK))
	expect(t, "P1.2 edge", res(span.Square(sp(-1<<30-1, 0))), refused(api.ErrLarge))
	expect(t, "P1.2 edge", res(span.Root(sp(0, api.MaxFix))), res(sp(0, 1<<30), api.OK))
	for _, bad := range invalid() {
		expect(t, "P1.2 Square", res(span.Square(bad)), refused(api.ErrArg))
		expect(t, "P1.2 Root", res(span.Root(bad)), refused(api.ErrArg))
	}
}

func TestScaleAndPart(t *testing.T) { // P1.3
	r := random()
	l := numbers(r, 60)
	for _, a := range spans(r, 60) {
		lo, hi := rat(a.Lo, one), rat(a.Hi, one)
		for _, n := range l {
			w, e := exact(new(big.Rat).Mul(lo, rat(n, 1)), new(big.Rat).Mul(hi, rat(n, 1)))
			expect(t, "P1.3 Scale", res(span.Scale(a, n)), res(w, e))
			if n < 1 {
				expect(t, "P1.3 Part", res(span.Part(a, n)), refused(api.ErrArg))
				continue
			}
			w, e = exact(new(big.Rat).Quo(lo, rat(n, 1)), new(big.Rat).Quo(hi, rat(n, 1)))
			expect(t, "P1.3 Part", res(span.Part(a, n)), res(w, e))
		}
	}
	expect(t, "P1.3 edge", res(span.Scale(sp(-1, 1), api.MaxInt)), res(sp(-api.MaxFix, api.MaxFix), api.OK))
	expect(t, "P1.3 edge", res(span.Scale(sp(0, 3), api.MaxInt/3)), res(sp(0, api.MaxInt/3*3), api.OK))
	expect(t, "P1.3 edge", res(span.Scale(sp(-3, 0), api.MaxInt/3+1)), refused(api.ErrLarge))
	expect(t, "P1.3 edge", res(span.Scale(sp(0, 0), -api.MaxInt)), res(api.Span{}, api.OK))
	expect(t, "P1.3 edge", res(span.Part(sp(-api.MaxFix, api.MaxFix), 1)), res(sp(-api.MaxFix, api.MaxFix), api.OK))
	for _, n := range []int{api.MaxInt + 1, -api.MaxInt - 1, math.MaxInt, math.MinInt} {
		for _, a := range []api.Span{{}, sp(1, 2), sp(-api.MaxFix, api.MaxFix)} {
			expect(t, "P1.3 Scale", res(span.Scale(a, n)), refused(api.ErrArg))
			expect(t, "P1.3 Part", res(span.Part(a, n)), refused(api.ErrArg))
		}
	}
	for _, bad := range invalid() {
		for _, n := range []int{1, 0, -1, api.MaxInt, math.MinInt} {
			expect(t, "P1.3 Scale", res(span.Scale(bad, n)), refused(api.ErrArg))
			expect(t, "P1.3 Part", res(span.Part(bad, n)), refused(api.ErrArg))
		}
	}
}

func TestSumAndMean(t *testing.T) { // P1.4
	r := random()
	for range 300 {
		all := spans(r, 20)
		l := make([]api.Span, 1+r.IntN(12))
		lo, hi := new(big.Rat), new(big.Rat)
		for i := range l {
			l[i] = all[r.IntN(len(all))]
			lo.Add(lo, rat(l[i].Lo, one))
			hi.Add(hi, rat(l[i].Hi, one))
		}
		w, e := exact(lo, hi)
		expect(t, "P1.4 Sum", res(span.Sum(l)), res(w, e))
		w, e = exact(lo.Quo(lo, rat(len(l), 1)), hi.Quo(hi, rat(len(l), 1)))
		expect(t, "P1.4 Mean", res(span.Mean(l)), res(w, e))
	}
}

func TestSumEdges(t *testing.T) { // P1.4
	top, bottom := sp(api.MaxFix, api.MaxFix), sp(-api.MaxFix, -api.MaxFix)
	for _, none := range [][]api.Span{nil, {}} {
		expect(t, "P1.4 Sum of none", res(span.Sum(none)), res(api.Span{}, api.OK))
		expect(t, "P1.4 Mean of none", res(span.Mean(none)), refused(api.ErrArg))
	}
	expect(t, "P1.4 large", res(span.Sum([]api.Span{top, sp(0, 1)})), refused(api.ErrLarge))
	expect(t, "P1.4 large", res(span.Sum([]api.Span{bottom, sp(-1, 0)})), refused(api.ErrLarge))
	expect(t, "P1.4 on the way", res(span.Sum([]api.Span{top, top, bottom})), res(top, api.OK))
	expect(t, "P1.4 Mean of a large sum", res(span.Mean([]api.Span{top, top, top})), res(top, api.OK))
	expect(t, "P1.4 outward", res(span.Mean([]api.Span{sp(-1, 1), sp(0, 0)})), res(sp(-1, 1), api.OK))

	many := make([]api.Span, api.MaxSpans+1)
	for i := range many {
		many[i] = sp(1, 2)
	}
	expect(t, "P1.4 as many as may be", res(span.Sum(many[1:])), res(sp(api.MaxSpans, 2*api.MaxSpans), api.OK))
	expect(t, "P1.4 as many as may be", res(span.Mean(many[1:])), res(sp(1, 2), api.OK))
	expect(t, "P1.4 too many", res(span.Sum(many)), refused(api.ErrLarge))
	expect(t, "P1.4 too many", res(span.Mean(many)), refused(api.ErrLarge))
	many[0] = sp(1, 0)
	expect(t, "P1.4 too many before not valid", res(span.Sum(many)), refused(api.ErrLarge))
	expect(t, "P1.4 too many before not valid", res(span.Mean(many)), refused(api.ErrLarge))
	for _, bad := range invalid() {
		for _, l := range [][]api.Span{{bad}, {sp(1, 2), bad}, {top, top, bad}} {
			expect(t, "P1.4 not valid", res(span.Sum(l)), refused(api.ErrArg))
			expect(t, "P1.4 not valid", res(span.Mean(l)), refused(api.ErrArg))
		}
	}
}

func TestInverse(t *testing.T) { // P1.5
	for _, n := range append(numbers(random(), 1000), 1<<20+1, 1<<14, 1<<15, 9, 16, 25, 36, 49) {
		if n < 1 {
			expect(t, "P1.5 Inverse", res(span.Inverse(n, 1)), refused(api.ErrArg))
			expect(t, "P1.5 Cube", res(span.Cube(n, 1)), refused(api.ErrArg))
			continue
		}
		for scale := 1; scale <= 8; scale++ {
			square := new(big.Rat).Quo(rat(scale*scale, 1), rat(n, 1))
			w, e := reference(rootDown(square), rootUp(square))
			expect(t, "P1.5 Inverse", res(span.Inverse(n, scale)), res(w, e))
			cube := new(big.Rat).Mul(square, new(big.Rat).Mul(square, square))
			w, e = reference(rootDown(cube), rootUp(cube))
			expect(t, "P1.5 Cube", res(span.Cube(n, scale)), res(w, e))
		}
		for _, scale := range []int{0, 9, -1, math.MinInt, math.MaxInt} {
			expect(t, "P1.5 Inverse", res(span.Inverse(n, scale)), refused(api.ErrArg))
			expect(t, "P1.5 Cube", res(span.Cube(n, scale)), refused(api.ErrArg))
		}
	}
	for _, n := range []int{0, -1, api.MaxInt + 1, math.MaxInt, math.MinInt} {
		expect(t, "P1.5 Inverse", res(span.Inverse(n, 8)), refused(api.ErrArg))
		expect(t, "P1.5 Cube", res(span.Cube(n, 8)), refused(api.ErrArg))
	}
	expect(t, "P1.5 example", res(span.Inverse(2, 1)), res(sp(741455, 741456), api.OK))
	expect(t, "P1.5 example", res(span.Inverse(4, 1)), res(sp(524288, 524288), api.OK))
	expect(t, "P1.5 example", res(span.Cube(4, 2)), res(sp(1048576, 1048576), api.OK))
}

func TestLength(t *testing.T) { // P1.5
	r := random()
	l := numbers(r, 1000)
	for range 200 {
		k := r.IntN(1 << 20)
		l = append(l, k*k, k*k+1, k*k+2*k)
	}
	for _, n := range l {
		if n < 0 {
			expect(t, "P1.5 Length", res(span.Length(n)), refused(api.ErrArg))
			continue
		}
		w, e := reference(rootDown(rat(n, 1)), rootUp(rat(n, 1)))
		expect(t, "P1.5 Length", res(span.Length(n)), res(w, e))
	}
	expect(t, "P1.5 edge", res(span.Length(api.MaxInt)), res(sp(api.MaxFix, api.MaxFix), api.OK))
	for _, n := range []int{-1, api.MaxInt + 1, math.MaxInt, math.MinInt} {
		expect(t, "P1.5 Length", res(span.Length(n)), refused(api.ErrArg))
	}
}

func TestCompare(t *testing.T) { // P1.6
	small := []api.Span{}
	for lo := -3; lo <= 3; lo++ {
		for hi := lo; hi <= 3; hi++ {
			small = append(small, sp(lo, hi))
		}
	}
	// Spans of few units, with their halves for the numbers in between.
	holds := func(s api.Span, half int) bool { return 2*s.Lo <= half && half <= 2*s.Hi }
	for _, a := range small {
		for _, b := range small {
			hull, both := sp(a.Lo, a.Hi), []int{}
			in, below, above := true, true, true
			for x := -6; x <= 6; x++ {
				if holds(b, x) && x%2 == 0 {
					hull = sp(min(hull.Lo, x/2), max(hull.Hi, x/2))
				}
				if holds(a, x) && holds(b, x) {
					both = append(both, x)
				}
				in = in && (!holds(a, x) || holds(b, x))
				for y := -6; y <= 6; y++ {
					if holds(a, x) && holds(b, y) {
						below, above = below && x < y, above && x > y
					}
				}
			}
			expect(t, "P1.6 Hull", res(span.Hull(a, b)), res(hull, api.OK))
			meet, met := api.Span{}, len(both) > 0
			if met {
				meet = sp(both[0]/2, both[len(both)-1]/2)
			}
			if s, ok, e := span.Meet(a, b); s != meet || ok != met || e != api.OK {
				t.Error("P1.6 Meet:", a, b, s, ok, e)
			}
			if ok, e := span.Within(a, b); ok != in || e != api.OK {
				t.Error("P1.6 Within:", a, b, ok, e)
			}
			order := 0
			if below {
				order = -1
			} else if above {
				order = 1
			}
			if c, e := span.Compare(a, b); c != order || e != api.OK {
				t.Error("P1.6 Compare:", a, b, c, e)
			}
		}
	}
	expect(t, "P1.6 edge", res(span.Hull(sp(api.MaxFix, api.MaxFix), sp(-api.MaxFix, -api.MaxFix))), res(sp(-api.MaxFix, api.MaxFix), api.OK))
}

func TestCompareInvalid(t *testing.T) { // P1.6
	for _, bad := range invalid() {
		for _, s := range []api.Span{{}, sp(-api.MaxFix, api.MaxFix), bad} {
			for _, p := range [][2]api.Span{{bad, s}, {s, bad}} {
				expect(t, "P1.6 Hull", res(span.Hull(p[0], p[1])), refused(api.ErrArg))
				if m, ok, e := span.Meet(p[0], p[1]); m != (api.Span{}) || ok || e != api.ErrArg {
					t.Error("P1.6 Meet:", p, m, ok, e)
				}
				if ok, e := span.Within(p[0], p[1]); ok || e != api.ErrArg {
					t.Error("P1.6 Within:", p, ok, e)
				}
				if c, e := span.Compare(p[0], p[1]); c != 0 || e != api.ErrArg {
					t.Error("P1.6 Compare:", p, c, e)
				}
			}
		}
	}
}

// arctanOfPart is the arc tangent of 1/n times 2^100, off by less than 2^10.
func arctanOfPart(n int64) *big.Int {
	term := new(big.Int).Div(new(big.Int).Lsh(big.NewInt(1), 100), big.NewInt(n))
	sum := new(big.Int)
	for k := int64(1); term.Sign() > 0; k += 2 {
		part := new(big.Int).Div(term, big.NewInt(k))
		if k%4 == 1 {
			sum.Add(sum, part)
		} else {
			sum.Sub(sum, part)
		}
		term.Div(term, big.NewInt(n*n))
	}
	return sum
}

func TestPi(t *testing.T) { // P1.7
	pi := new(big.Int).Mul(arctanOfPart(5), big.NewInt(16)) // by Machin
	pi.Sub(pi, new(big.Int).Mul(arctanOfPart(239), big.NewInt(4)))
	least := int(pi.Rsh(pi, 80).Int64())
	if p := span.Pi(); p != sp(least, least+1) || p != sp(3294198, 3294199) {
		t.Error("P1.7 Pi:", p, least)
	}
}

func TestTexts(t *testing.T) { // P1.7
	for s, text := range map[api.Span]string{
		sp(0, 0):                     "0 0",
		sp(-3, 4):                    "-3 4",
		sp(-20, -10):                 "-20 -10",
		sp(-api.MaxFix, api.MaxFix):  "-1099511627776 1099511627776",
		sp(api.MaxFix, api.MaxFix):   "1099511627776 1099511627776",
		sp(-api.MaxFix, -api.MaxFix): "-1099511627776 -1099511627776",
	} {
		if got, e := span.Format(s); got != text || e != api.OK {
			t.Error("P1.7 Format:", s, got, e)
		}
		expect(t, "P1.7 Parse", res(span.Parse(text)), res(s, api.OK))
	}
	for _, s := range spans(random(), 300) {
		text, _ := span.Format(s)
		expect(t, "P1.7 there and back", res(span.Parse(text)), res(s, api.OK))
	}
	for _, bad := range invalid() {
		if got, e := span.Format(bad); got != "" || e != api.ErrArg {
			t.Error("P1.7 Format:", bad, got, e)
		}
	}
}

func TestTextsRefused(t *testing.T) { // P1.7
	for _, text := range []string{
		"", " ", "  ", "1", "1 ", " 1", "1 2 ", " 1 2", "1  2", "1 2 3", "1\t2", "1 2\n", "1 2\r", "1,2", "12",
		"01 2", "1 02", "00 0", "0 00", "-0 1", "-1 -0", "-01 2", "+1 2", "1 +2", "--1 2", "- 2", "1 -", "-1 - 1",
		"1_0 20", "0x1 2", "1.0 2", "1e1 20", "a b", "1 2a", "１ ２", "1\u00a02", "1 2\x00", "\x00",
		"2 1", "0 -1", "1 1099511627777", "-1099511627777 1", "1099511627777 1099511627777",
		"9223372036854775807 9223372036854775807", "0 9223372036854775808", "-9223372036854775808 0", "0 18446744073709551617",
		"99999999999999999999999999 1",
	} {
		if s, e := span.Parse(text); s != (api.Span{}) || e != api.ErrSyntax {
			t.Errorf("P1.7 Parse %q: %v %v", text, s, e)
		}
	}
}

// inner returns a span within s.
func inner(r *rand.Rand, s api.Span) api.Span {
	lo := s.Lo + int(r.Int64N(int64(s.Hi-s.Lo)+1))
	return sp(lo, lo+int(r.Int64N(int64(s.Hi-lo)+1)))
}

func encloses(t *testing.T, what string, wide, narrow result) {
	t.Helper()
	if wide.e != api.OK {
		return
	}
	if in, e := span.Within(narrow.s, wide.s); !in || e != api.OK || narrow.e != api.OK {
		t.Errorf("%s: %v is not within %v", what, narrow, wide)
	}
}

func TestWiderArguments(t *testing.T) { // the consequence
	r := random()
	l := spans(r, 60)
	for _, a := range l {
		x := inner(r, a)
		for _, b := range l {
			y := inner(r, b)
			for _, o := range pairOperations() {
				encloses(t, o.name, res(o.do(a, b)), res(o.do(x, y)))
			}
			encloses(t, "Sum", res(span.Sum([]api.Span{a, b})), res(span.Sum([]api.Span{x, y})))
			encloses(t, "Mean", res(span.Mean([]api.Span{a, b})), res(span.Mean([]api.Span{x, y})))
			encloses(t, "Hull", res(span.Hull(a, b)), res(span.Hull(x, y)))
		}
		encloses(t, "Square", res(span.Square(a)), res(span.Square(x)))
		encloses(t, "Root", res(span.Root(a)), res(span.Root(x)))
		encloses(t, "Scale", res(span.Scale(a, -3)), res(span.Scale(x, -3)))
		encloses(t, "Part", res(span.Part(a, 3)), res(span.Part(x, 3)))
	}
}

func TestArgumentsStay(t *testing.T) { // R5
	l := []api.Span{sp(1, 2), sp(-3, 4), sp(5, 5)}
	span.Sum(l)
	span.Mean(l)
	if l[0] != sp(1, 2) || l[1] != sp(-3, 4) || l[2] != sp(5, 5) {
		t.Error("R5:", l)
	}
}
