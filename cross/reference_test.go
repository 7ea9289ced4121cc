package cross_test

import (
	"fmt"
	"math/big"
	"math/rand/v2"
	"testing"

	"facet/api"
	"facet/cross"
)

// The tests hold the package against a reference that calculates with rational numbers
// of any length, finds determinants and inverses by elimination, and shares no code
// with it.

// The limits that the chapter names.
const (
	mostSize  = 6
	mostEntry = 100
)

func random() *rand.Rand { return rand.New(rand.NewPCG(1, 2)) }

func expect[T comparable](t *testing.T, what string, got, want T) {
	t.Helper()
	if got != want {
		t.Errorf("%s: %v, want %v", what, got, want)
	}
}

// expectAlike compares lists, too; a nil slice is as an empty one.
func expectAlike(t *testing.T, what string, got, want any) {
	t.Helper()
	if a, b := fmt.Sprintf("%+v", got), fmt.Sprintf("%+v", want); a != b {
		t.Errorf("%s: %s, want %s", what, a, b)
	}
}

// must returns a result that has no error.
func must[T any](v T, e api.Errno) T {
	if e != api.OK {
		panic(e)
	}
	return v
}

// result is what a function returns: with an error, the zero value.
type result[T any] struct {
	v T
	e api.Errno
}

func res[T any](v T, e api.Errno) result[T] { return result[T]{v, e} }

func refused[T any](e api.Errno) result[T] { return result[T]{e: e} }

// pick is a choice of rows and columns.
type pick struct{ rows, columns []int }

func picked(rows, columns []int, e api.Errno) result[pick] {
	return result[pick]{pick{rows, columns}, e}
}

func rat(n, d int) api.Rat { return api.Rat{Num: n, Den: d} }

// filled is a matrix of the elements that a function names.
func filled(rows, columns int, element func(i, j int) int) [][]int {
	a := make([][]int, rows)
	for i := range a {
		a[i] = make([]int, columns)
		for j := range a[i] {
			a[i][j] = element(i, j)
		}
	}
	return a
}

// ofRank is a matrix of about that rank: a product of two random ones.
func ofRank(r *rand.Rand, rows, columns, rank int) [][]int {
	left := filled(rows, rank, func(i, j int) int { return r.IntN(9) - 4 })
	right := filled(rank, columns, func(i, j int) int { return r.IntN(9) - 4 })
	return filled(rows, columns, func(i, j int) int {
		sum := 0
		for k := range rank {
			sum += left[i][k] * right[k][j]
		}
		return sum
	})
}

// matrices are of all sizes and of many kinds: any elements, small ones, the greatest
// ones, few that are not 0, and each rank.
func matrices(r *rand.Rand) [][][]int {
	var l [][][]int
	for rows := 1; rows <= mostSize; rows++ {
		for columns := 1; columns <= mostSize; columns++ {
			l = append(l,
				filled(rows, columns, func(i, j int) int { return r.IntN(2*mostEntry+1) - mostEntry }),
				filled(rows, columns, func(i, j int) int { return r.IntN(5) - 2 }),
				filled(rows, columns, func(i, j int) int { return (2*r.IntN(2) - 1) * mostEntry }),
				filled(rows, columns, func(i, j int) int { return (r.IntN(4) / 3) * (r.IntN(7) - 3) }),
				ofRank(r, rows, columns, r.IntN(min(rows, columns)+1)))
		}
	}
	return append(l, greatest())
}

// greatest has the greatest determinant of all matrices, 160 * 100^6, and among its
// minors are the greatest ones of five rows, 48 * 100^5.
func greatest() [][]int {
	signs := [][]int{
		{-1, 1, -1, -1, -1, 1},
		{-1, -1, -1, 1, 1, 1},
		{-1, 1, 1, 1, 1, 1},
		{1, 1, -1, -1, 1, -1},
		{-1, 1, -1, 1, -1, -1},
		{-1, -1, 1, -1, 1, -1},
	}
	return filled(6, 6, func(i, j int) int { return mostEntry * signs[i][j] })
}

// few are some of the matrices, so that all their choices may be gone through.
func few(r *rand.Rand, greatestSide int) [][][]int {
	var l [][][]int
	for _, a := range matrices(r) {
		if len(a) <= greatestSide && len(a[0]) <= greatestSide {
			l = append(l, a)
		}
	}
	return l
}

// tiny are all matrices of that size with elements from -1 to 1.
func tiny(rows, columns int) [][][]int {
	all := 1
	for range rows * columns {
		all *= 3
	}
	var l [][][]int
	for k := range all {
		rest := k
		l = append(l, filled(rows, columns, func(i, j int) int {
			digit := rest % 3
			rest /= 3
			return digit - 1
		}))
	}
	return l
}

// subsets are the sets of k numbers from first to n - 1.
func subsets(first, n, k int) [][]int {
	if k == 0 {
		return [][]int{nil}
	}
	var l [][]int
	for i := first; i < n; i++ {
		for _, rest := range subsets(i+1, n, k-1) {
			l = append(l, append([]int{i}, rest...))
		}
	}
	return l
}

// picksOf are all choices of k rows and columns of a matrix.
func picksOf(a [][]int, k int) []pick {
	var l []pick
	for _, rows := range subsets(0, len(a), k) {
		for _, columns := range subsets(0, len(a[0]), k) {
			l = append(l, pick{rows, columns})
		}
	}
	return l
}

// picks are all choices of a matrix.
func picks(a [][]int) []pick {
	var l []pick
	for k := range min(len(a), len(a[0])) + 1 {
		l = append(l, picksOf(a, k)...)
	}
	return l
}

// table is a matrix of rational numbers.
type table [][]*big.Rat

func whole(n int) *big.Rat { return new(big.Rat).SetInt64(int64(n)) }

func part(a [][]int, rows, columns []int) table {
	var m table
	for _, i := range rows {
		var row []*big.Rat
		for _, j := range columns {
			row = append(row, whole(a[i][j]))
		}
		m = append(m, row)
	}
	return m
}

func numbers(n int) []int {
	l := make([]int, n)
	for i := range l {
		l[i] = i
	}
	return l
}

// eliminate brings a table to steps from the top left, and returns how many steps there
// are and the product of the first elements of the steps, with the sign of the rows'
// exchanges.
func (m table) eliminate() (steps int, product *big.Rat) {
	product = whole(1)
	if len(m) == 0 {
		return 0, product
	}
	for j := range m[0] {
		at := steps
		for at < len(m) && m[at][j].Sign() == 0 {
			at++
		}
		if at == len(m) {
			continue
		}
		if at != steps {
			m[at], m[steps] = m[steps], m[at]
			product.Neg(product)
		}
		product.Mul(product, m[steps][j])
		for i := steps + 1; i < len(m); i++ {
			m.subtract(i, steps, j)
		}
		steps++
	}
	return steps, product
}

// subtract takes as much of the row from away from the row i as makes its element j 0.
func (m table) subtract(i, from, j int) {
	by := new(big.Rat).Quo(m[i][j], m[from][j])
	for k := range m[i] {
		m[i][k] = new(big.Rat).Sub(m[i][k], new(big.Rat).Mul(by, m[from][k]))
	}
}

// referenceMinor is the determinant of the submatrix of rows and columns.
func referenceMinor(a [][]int, p pick) int {
	m := part(a, p.rows, p.columns)
	steps, product := m.eliminate()
	if steps < len(m) {
		return 0
	}
	return int(product.Num().Int64())
}

func referenceRank(a [][]int) int {
	steps, _ := part(a, numbers(len(a)), numbers(len(a[0]))).eliminate()
	return steps
}

// referenceVolume is the greatest absolute value of a minor of k rows.
func referenceVolume(a [][]int, k int) int {
	most := 0
	for _, p := range picksOf(a, k) {
		n := referenceMinor(a, p)
		most = max(most, n, -n)
	}
	return most
}

// solved returns G^-1 * R for the submatrix G and the chosen rows R of a choice whose
// minor is not 0: it brings G, with R beside it, to the unit matrix.
func solved(a [][]int, p pick) table {
	both := append(append([]int{}, p.columns...), numbers(len(a[0]))...)
	m := part(a, p.rows, both)
	for k := range m {
		at := k
		for m[at][k].Sign() == 0 {
			at++
		}
		m[at], m[k] = m[k], m[at]
		first := new(big.Rat).Set(m[k][k])
		for j := range m[k] {
			m[k][j] = new(big.Rat).Quo(m[k][j], first)
		}
		for i := range m {
			if i != k {
				m.subtract(i, k, k)
			}
		}
	}
	for k := range m {
		m[k] = m[k][len(p.columns):]
	}
	return m
}

// referenceSkeleton is C * G^-1 * R for a choice whose minor is not 0.
func referenceSkeleton(a [][]int, p pick) table {
	right := solved(a, p)
	var m table
	for i := range a {
		var row []*big.Rat
		for j := range a[i] {
			sum := whole(0)
			for k, column := range p.columns {
				sum.Add(sum, new(big.Rat).Mul(whole(a[i][column]), right[k][j]))
			}
			row = append(row, sum)
		}
		m = append(m, row)
	}
	return m
}

// referenceResidual is the matrix minus its skeleton.
func referenceResidual(a [][]int, p pick) table {
	m := referenceSkeleton(a, p)
	for i, row := range m {
		for j, kept := range row {
			row[j] = new(big.Rat).Sub(whole(a[i][j]), kept)
		}
	}
	return m
}

func (m table) worst() *big.Rat {
	most := whole(0)
	for _, row := range m {
		for _, x := range row {
			if size := new(big.Rat).Abs(x); size.Cmp(most) > 0 {
				most = size
			}
		}
	}
	return most
}

// times is the table times x.
func (m table) times(x []int) []*big.Rat {
	var l []*big.Rat
	for _, row := range m {
		sum := whole(0)
		for j, y := range row {
			sum.Add(sum, new(big.Rat).Mul(y, whole(x[j])))
		}
		l = append(l, sum)
	}
	return l
}

// lowest is a rational number in lowest terms, as package api has it.
func lowest(x *big.Rat) api.Rat {
	if !x.Num().IsInt64() || !x.Denom().IsInt64() {
		panic("too large for an int")
	}
	return rat(int(x.Num().Int64()), int(x.Denom().Int64()))
}

func allLowest(l []*big.Rat) []api.Rat {
	var all []api.Rat
	for _, x := range l {
		all = append(all, lowest(x))
	}
	return all
}

func (m table) lowest() [][]api.Rat {
	var all [][]api.Rat
	for _, row := range m {
		all = append(all, allLowest(row))
	}
	return all
}

func exact(x api.Rat) *big.Rat { return big.NewRat(int64(x.Num), int64(x.Den)) }

// invalid are no matrices, each with its error.
func invalid() []result[[][]int] {
	ragged := [][]int{{1, 2}, {3}}
	with := func(n int) [][]int { return [][]int{{1, 2}, {3, n}} }
	return []result[[][]int]{
		{nil, api.ErrLarge},
		{[][]int{}, api.ErrLarge},
		{filled(7, 1, func(i, j int) int { return 1 }), api.ErrLarge},
		{make([][]int, 7), api.ErrLarge},
		{filled(7, 7, func(i, j int) int { return 101 }), api.ErrLarge},
		{make([][]int, 1), api.ErrArg},
		{make([][]int, 6), api.ErrArg},
		{[][]int{{}, {}}, api.ErrArg},
		{[][]int{{}, {1}}, api.ErrArg},
		{[][]int{{1}, {}}, api.ErrArg},
		{ragged, api.ErrArg},
		{[][]int{{1}, {2, 3}}, api.ErrArg},
		{[][]int{{1, 2}, {3, 4}, {5, 6, 7}}, api.ErrArg},
		{filled(1, 7, func(i, j int) int { return 1 }), api.ErrArg},
		{filled(6, 7, func(i, j int) int { return 1 }), api.ErrArg},
		{with(101), api.ErrArg},
		{with(-101), api.ErrArg},
		{with(1 << 62), api.ErrArg},
		{with(-1 << 63), api.ErrArg},
		{[][]int{{101, 0}, {0, 0}}, api.ErrArg},
		{[][]int{{0, -101}, {0, 0}}, api.ErrArg},
		{[][]int{{101}}, api.ErrArg},
	}
}

func TestReference(t *testing.T) { // the reference is right where the answer is known
	a := [][]int{{2, 1}, {1, 1}}
	expect(t, "minor", referenceMinor(a, pick{[]int{0, 1}, []int{0, 1}}), 1)
	expect(t, "greatest", referenceMinor(greatest(), pick{numbers(6), numbers(6)}), 160*1000000000000)
	expectAlike(t, "skeleton", referenceSkeleton(a, pick{[]int{0}, []int{0}}).lowest(), [][]api.Rat{{rat(2, 1), rat(1, 1)}, {rat(1, 1), rat(1, 2)}})
	expect(t, "choices", len(picks(greatest())), 924)
	expect(t, "matrices", len(matrices(random())), 181)
	for _, a := range matrices(random()) {
		expect(t, "valid", cross.Validate(a), api.OK)
	}
}
