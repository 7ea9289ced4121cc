package cross_test

import (
	"fmt"
	"math/big"
	"math/rand/v2"
	"testing"

	"facet/api"
	"facet/cross"
)

// factors are numbers by which a matrix with n columns may be multiplied.
func factors(r *rand.Rand, n int) [][]int {
	l := make([][]int, 4)
	for j := range n {
		l[0] = append(l[0], r.IntN(2001)-1000)
		l[1] = append(l[1], (2*r.IntN(2)-1)*1000)
		l[2] = append(l[2], (r.IntN(3)/2)*(r.IntN(9)-4))
		l[3] = append(l[3], min(max(0, 1-j), 1))
	}
	return l
}

// fit makes each product of a row and x as great as it may be.
func fit(row []int) []int {
	var x []int
	for _, n := range row {
		x = append(x, max(-1000, min(1000, 1000*n)))
	}
	return x
}

func TestProduct(t *testing.T) { // P6.5
	r := random()
	for _, a := range matrices(r) {
		all := table(part(a, numbers(len(a)), numbers(len(a[0]))))
		for _, x := range append(factors(r, len(a[0])), fit(a[0])) {
			var want []int
			for _, n := range allLowest(all.times(x)) {
				want = append(want, n.Num)
			}
			expectAlike(t, fmt.Sprint("P6.5 Product of ", a, x), res(cross.Product(a, x)), res(want, api.OK))
		}
	}
	expectAlike(t, "P6.5 Product", must(cross.Product([][]int{{1, 2, 3}, {4, 5, -6}}, []int{1, 10, 100})), []int{321, -546})
}

func TestFast(t *testing.T) { // P6.5, S5: Fast, Off, and how far they are from Product
	r := random()
	for _, a := range matrices(r) {
		x := factors(r, len(a[0]))[r.IntN(3)]
		for _, p := range picks(a) {
			checkFast(t, a, p, x)
		}
	}
	for _, row := range greatest() {
		for _, p := range picks(greatest()) {
			if len(p.rows) >= 4 {
				checkFast(t, greatest(), p, fit(row))
			}
		}
	}
}

func checkFast(t *testing.T, a [][]int, p pick, x []int) {
	t.Helper()
	what := fmt.Sprint("P6.5 of ", a, p, x)
	fast, e := cross.Fast(a, p.rows, p.columns, x)
	off, f := cross.Off(a, p.rows, p.columns, x)
	if referenceMinor(a, p) == 0 {
		expectAlike(t, what+" Fast", res(fast, e), refused[[]api.Rat](api.ErrZero))
		expect(t, what+" Off", res(off, f), refused[api.Rat](api.ErrZero))
		return
	}
	expectAlike(t, what+" Fast", res(fast, e), res(allLowest(referenceSkeleton(a, p).times(x)), api.OK))
	sum := 0
	for _, n := range x {
		sum += max(n, -n)
	}
	most := new(big.Rat).Mul(referenceResidual(a, p).worst(), whole(sum))
	expect(t, what+" Off", res(off, f), res(lowest(most), api.OK))
	for i, n := range must(cross.Product(a, x)) {
		difference := new(big.Rat).Sub(whole(n), exact(fast[i]))
		if difference.Abs(difference).Cmp(exact(off)) > 0 {
			t.Error("S5", what, "row", i, "is off by", difference, "more than", off)
		}
	}
}

func TestFastExamples(t *testing.T) { // P6.5
	a, one := [][]int{{2, 1}, {1, 1}}, []int{0}
	expectAlike(t, "P6.5 Fast", must(cross.Fast(a, one, one, []int{1, 3})), []api.Rat{rat(5, 1), rat(5, 2)})
	expect(t, "P6.5 Off", must(cross.Off(a, one, one, []int{1, -3})), rat(2, 1))
	expectAlike(t, "P6.5 Fast of nothing", must(cross.Fast(a, nil, nil, []int{1, 3})), []api.Rat{rat(0, 1), rat(0, 1)})
	expect(t, "P6.5 Off of nothing", must(cross.Off(a, nil, nil, []int{1, -3})), rat(8, 1))
	expect(t, "P6.5 Off of all", must(cross.Off(a, numbers(2), numbers(2), []int{1, -3})), rat(0, 1))
	expect(t, "P6.5 Off of zeros", must(cross.Off(a, one, one, []int{0, 0})), rat(0, 1))
}

func TestFactors(t *testing.T) { // P6.5
	a := [][]int{{1, 2, 3}, {4, 5, 6}}
	for _, x := range [][]int{nil, {1}, {1, 2}, {1, 2, 3, 4}, {1001, 0, 0}, {0, 0, 1001}, {-1001, 0, 0}, {0, 0, -1001}, {0, 1<<63 - 1, 0}, {0, -1 << 63, 0}} {
		what := fmt.Sprint("P6.5 no factor ", x)
		expectAlike(t, what, res(cross.Product(a, x)), refused[[]int](api.ErrArg))
		expectAlike(t, what, res(cross.Fast(a, nil, nil, x)), refused[[]api.Rat](api.ErrArg))
		expect(t, what, res(cross.Off(a, nil, nil, x)), refused[api.Rat](api.ErrArg))
	}
	for _, x := range [][]int{{1000, 0, 0}, {0, 0, 1000}, {-1000, 0, 0}, {0, 0, -1000}} {
		_, e := cross.Product(a, x)
		expect(t, fmt.Sprint("P6.5 factor ", x), e, api.OK)
	}
}
