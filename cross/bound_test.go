package cross_test

import (
	"fmt"
	"math/big"
	"testing"

	"facet/api"
	"facet/cross"
)

// noBounds are fractions that are no bounds.
func noBounds() []api.Rat {
	return []api.Rat{
		{}, rat(1, 0), rat(0, 2), rat(2, 2), rat(4, 6), rat(1000, 1000), rat(999999, 3), rat(1, 1001), rat(1000001, 1),
		rat(1000001, 1000), rat(-1, 1), rat(-1, 1000), rat(1, -1), rat(-1, -1), rat(0, -1), rat(0, 1000),
		rat(1<<63-1, 1), rat(-1<<63, 1), rat(1, 1<<63-1), rat(1, -1<<63), rat(-1<<63, -1<<63), rat(1<<63-1, 1<<63-1),
	}
}

// bounds are bounds of many sizes.
func bounds() []api.Rat {
	return []api.Rat{
		rat(0, 1), rat(1, 1000), rat(1, 2), rat(1, 1), rat(999, 1000), rat(4, 3), rat(10, 1), rat(99, 1), rat(100, 1),
		rat(101, 1), rat(1000, 3), rat(333333, 1000), rat(166667, 500), rat(999999, 1000), rat(1000000, 1), rat(1000000, 999),
	}
}

func TestBounds(t *testing.T) { // P6.4: what a bound is
	a := [][]int{{2, 1}, {1, 1}}
	for _, b := range noBounds() {
		what := fmt.Sprint("P6.4 no bound ", b)
		expect(t, what, cross.Check(a, nil, nil, b), api.ErrArg)
		expect(t, what, res(cross.Fewest(a, b)), refused[int](api.ErrArg))
		expectAlike(t, what, picked(cross.Compress(a, b)), refused[pick](api.ErrArg))
	}
	for _, b := range bounds() {
		what := fmt.Sprint("P6.4 bound ", b)
		expect(t, what, cross.Check(a, []int{0, 1}, []int{0, 1}, b), api.OK)
		expect(t, what, res(cross.Fewest([][]int{{0}}, b)), res(0, api.OK))
	}
	for num := range 40 {
		for den := -2; den <= 40; den++ {
			want := api.ErrArg
			if den > 0 && new(big.Int).GCD(nil, nil, big.NewInt(int64(num)), big.NewInt(int64(den))).Int64() == 1 {
				want = api.OK
			}
			expect(t, fmt.Sprint("P6.4 ", num, "/", den), cross.Check([][]int{{0}}, nil, nil, rat(num, den)), want)
		}
	}
}

func TestCheck(t *testing.T) { // P6.4
	seen := map[api.Errno]int{}
	for _, a := range append(few(random(), 4), greatest()) {
		for _, p := range picks(a) {
			left := referenceLeft(a, p)
			for _, b := range bounds() {
				want := referenceCheck(left, b)
				seen[want]++
				expect(t, fmt.Sprint("P6.4 Check ", a, p, b), cross.Check(a, p.rows, p.columns, b), want)
			}
		}
	}
	for _, e := range []api.Errno{api.OK, api.ErrZero, api.ErrProof} {
		if seen[e] < 1000 {
			t.Error("P6.4 too few of a kind", seen)
		}
	}
}

// referenceLeft is Worst of a choice, or nil if its minor is 0.
func referenceLeft(a [][]int, p pick) *big.Rat {
	if referenceMinor(a, p) == 0 {
		return nil
	}
	return referenceResidual(a, p).worst()
}

// referenceCheck is Check of a choice that leaves that, and a bound.
func referenceCheck(left *big.Rat, b api.Rat) api.Errno {
	switch {
	case left == nil:
		return api.ErrZero
	case left.Cmp(exact(b)) > 0:
		return api.ErrProof
	}
	return api.OK
}

func TestCheckAtWorst(t *testing.T) { // P6.4: a bound that Worst reaches is kept
	reached := 0
	for _, a := range matrices(random()) {
		for _, p := range picks(a) {
			worst, e := cross.Worst(a, p.rows, p.columns)
			if e != api.OK || worst.Num == 0 || worst.Num >= 1000000 || worst.Den > 1000 {
				continue
			}
			reached++
			what := fmt.Sprint("P6.4 Check ", a, p, " at ", worst)
			expect(t, what, cross.Check(a, p.rows, p.columns, worst), api.OK)
			less := lowest(big.NewRat(int64(worst.Num-1), int64(worst.Den)))
			expect(t, what, cross.Check(a, p.rows, p.columns, less), api.ErrProof)
		}
	}
	if reached < 1000 {
		t.Error("P6.4 too few bounds that Worst reaches", reached)
	}
}

func TestFewest(t *testing.T) { // P6.4: Fewest and Compress
	for _, a := range append(few(random(), 4), tiny(2, 3)...) {
		left := map[int][]*big.Rat{}
		for _, p := range picks(a) {
			left[len(p.rows)] = append(left[len(p.rows)], referenceLeft(a, p))
		}
		for _, b := range bounds() {
			checkFewest(t, a, b, referenceFewest(left, b))
		}
	}
}

// referenceFewest is the smallest number of rows of which some choice is accepted.
func referenceFewest(left map[int][]*big.Rat, b api.Rat) int {
	for k := 0; ; k++ {
		for _, worst := range left[k] {
			if referenceCheck(worst, b) == api.OK {
				return k
			}
		}
	}
}

func checkFewest(t *testing.T, a [][]int, b api.Rat, want int) {
	t.Helper()
	what := fmt.Sprint("P6.4 of ", a, b)
	expect(t, what+" Fewest", res(cross.Fewest(a, b)), res(want, api.OK))
	rows, columns, e := cross.Compress(a, b)
	expect(t, what+" Compress", e, api.OK)
	expect(t, what+" Compress, rows", len(rows), want)
	expect(t, what+" Compress, accepted", cross.Check(a, rows, columns, b), api.OK)
}

func TestFewestOfAll(t *testing.T) { // P6.4: with the bound 0, Fewest is Rank
	for _, a := range matrices(random()) {
		checkFewest(t, a, rat(0, 1), referenceRank(a))
		checkFewest(t, a, rat(100, 1), 0)
	}
	// 160 * 100^6 / (48 * 100^5) is 1000/3: five rows of the greatest matrix leave that.
	five := pick{}
	for _, p := range picksOf(greatest(), 5) {
		if n := referenceMinor(greatest(), p); n == 48*10000000000 || n == -48*10000000000 {
			five = p
		}
	}
	expect(t, "P6.4 five rows", res(cross.Worst(greatest(), five.rows, five.columns)), res(rat(1000, 3), api.OK))
	expect(t, "P6.4 five rows", cross.Check(greatest(), five.rows, five.columns, rat(1000, 3)), api.OK)
	expect(t, "P6.4 five rows", cross.Check(greatest(), five.rows, five.columns, rat(166667, 500)), api.OK)
	expect(t, "P6.4 five rows", cross.Check(greatest(), five.rows, five.columns, rat(333333, 1000)), api.ErrProof)
}
