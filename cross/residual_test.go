package cross_test

import (
	"fmt"
	"math/big"
	"slices"
	"testing"

	"facet/api"
	"facet/cross"
)

func TestSkeleton(t *testing.T) { // P6.3: Skeleton and Worst
	zeros := 0
	for _, a := range matrices(random()) {
		for _, p := range picks(a) {
			what := fmt.Sprint("P6.3 of ", a, p)
			skeleton := res(cross.Skeleton(a, p.rows, p.columns))
			worst := res(cross.Worst(a, p.rows, p.columns))
			if referenceMinor(a, p) == 0 {
				zeros++
				expectAlike(t, what+" Skeleton", skeleton, refused[[][]api.Rat](api.ErrZero))
				expect(t, what+" Worst", worst, refused[api.Rat](api.ErrZero))
				continue
			}
			expectAlike(t, what+" Skeleton", skeleton, res(referenceSkeleton(a, p).lowest(), api.OK))
			expect(t, what+" Worst", worst, res(lowest(referenceResidual(a, p).worst()), api.OK))
		}
	}
	if zeros < 1000 {
		t.Error("too few minors that are 0", zeros)
	}
}

func TestResidual(t *testing.T) { // P6.3
	for _, a := range append(few(random(), 4), greatest()) {
		for _, p := range picks(a) {
			if referenceMinor(a, p) == 0 {
				expect(t, "P6.3 Residual", res(cross.Residual(a, p.rows, p.columns, 0, 0)), refused[api.Rat](api.ErrZero))
				continue
			}
			for i, row := range referenceResidual(a, p).lowest() {
				for j, want := range row {
					what := fmt.Sprint("P6.3 Residual of ", a, p, i, j)
					expect(t, what, res(cross.Residual(a, p.rows, p.columns, i, j)), res(want, api.OK))
				}
			}
		}
	}
}

func TestResidualTiny(t *testing.T) { // P6.3
	for _, a := range tiny(2, 2) {
		for i := range 2 {
			for j := range 2 {
				if a[i][j] == 0 {
					continue
				}
				// What the skeleton of one element leaves at the other corner.
				left := a[1-i][1-j] - a[1-i][j]*a[i][1-j]*a[i][j]
				got := res(cross.Residual(a, []int{i}, []int{j}, 1-i, 1-j))
				expect(t, fmt.Sprint("P6.3 Residual of ", a, i, j), got, res(rat(left, 1), api.OK))
			}
		}
	}
}

func TestResidualOutside(t *testing.T) { // P6.3
	a := [][]int{{1, 2, 3}, {4, 5, 6}}
	for _, at := range [][2]int{{-1, 0}, {2, 0}, {0, -1}, {0, 3}, {2, 3}, {-1 << 63, 0}, {0, 1<<63 - 1}} {
		for _, p := range []pick{{}, {[]int{0}, []int{0}}, {[]int{0, 1}, []int{1, 2}}} {
			got := res(cross.Residual(a, p.rows, p.columns, at[0], at[1]))
			expect(t, fmt.Sprint("P6.3 Residual ", p, at), got, refused[api.Rat](api.ErrNone))
		}
	}
}

func TestResidualExamples(t *testing.T) { // the chapter's examples
	one := []int{0}
	flat := [][]int{{2, 4}, {3, 6}}
	for i := range 2 {
		for j := range 2 {
			expect(t, "example 1", res(cross.Residual(flat, one, one, i, j)), res(rat(0, 1), api.OK))
		}
	}
	expect(t, "example 1", res(cross.Worst(flat, one, one)), res(rat(0, 1), api.OK))
	bent := [][]int{{2, 1}, {1, 1}}
	expect(t, "example 2", res(cross.Residual(bent, one, one, 1, 1)), res(rat(1, 2), api.OK))
	expect(t, "example 2", res(cross.Worst(bent, one, one)), res(rat(1, 2), api.OK))
	expectAlike(t, "example 2", must(cross.Skeleton(bent, one, one)), [][]api.Rat{{rat(2, 1), rat(1, 1)}, {rat(1, 1), rat(1, 2)}})
	expect(t, "example 3", res(cross.Residual(bent, nil, nil, 1, 0)), res(rat(1, 1), api.OK))
	expectAlike(t, "example 3", must(cross.Skeleton(bent, nil, nil)), [][]api.Rat{{rat(0, 1), rat(0, 1)}, {rat(0, 1), rat(0, 1)}})
	expect(t, "example 3", res(cross.Worst(bent, nil, nil)), res(rat(2, 1), api.OK))
	// An element below 0 counts by its absolute value, a minor below 0 changes the sign.
	expect(t, "P6.3 below 0", res(cross.Residual([][]int{{2, 3}, {1, 1}}, one, one, 1, 1)), res(rat(-1, 2), api.OK))
	expect(t, "P6.3 below 0", res(cross.Residual([][]int{{-2, 3}, {1, 1}}, one, one, 1, 1)), res(rat(5, 2), api.OK))
	expect(t, "P6.3 below 0", res(cross.Worst([][]int{{-2, 3}, {1, -2}}, one, one)), res(rat(1, 2), api.OK))
}

func TestQuotientOfMinors(t *testing.T) { // P6.3, S5: a quotient of two determinants
	for _, a := range few(random(), 4) {
		rank := must(cross.Rank(a))
		for _, p := range picks(a) {
			minor := must(cross.Minor(a, p.rows, p.columns))
			if minor == 0 {
				continue
			}
			for i := range a {
				for j := range a[0] {
					want := big.NewRat(int64(borderedMinor(a, p, i, j)), int64(minor))
					got := must(cross.Residual(a, p.rows, p.columns, i, j))
					expect(t, fmt.Sprint("S5 of ", a, p, i, j), got, lowest(want))
				}
			}
			isNothing := must(cross.Worst(a, p.rows, p.columns)) == rat(0, 1)
			expect(t, fmt.Sprint("P6.3 nothing is left of ", a, p), isNothing, len(p.rows) == rank)
		}
	}
}

// borderedMinor finds the determinant with a row and a column at the end by Minor, which
// takes them at their places: each place that one is moved by changes the sign.
func borderedMinor(a [][]int, p pick, i, j int) int {
	if slices.Contains(p.rows, i) || slices.Contains(p.columns, j) {
		return 0
	}
	sign := 1
	put := func(l []int, n int) []int {
		at, _ := slices.BinarySearch(l, n)
		if (len(l)-at)%2 == 1 {
			sign = -sign
		}
		return slices.Insert(slices.Clone(l), at, n)
	}
	minor := must(cross.Minor(a, put(p.rows, i), put(p.columns, j)))
	return sign * minor
}

func TestLargestIsGood(t *testing.T) { // P6.6: Worst of a choice of greatest volume
	checked := 0
	for _, a := range matrices(random()) {
		side := min(len(a), len(a[0]))
		for k := range side + 1 {
			volume, next := must(cross.Volume(a, k)), 0
			if volume == 0 {
				continue
			}
			if k < side {
				next = must(cross.Volume(a, k+1))
			}
			rows, columns, _ := cross.Largest(a, k)
			worst := must(cross.Worst(a, rows, columns))
			if exact(worst).Cmp(big.NewRat(int64(next), int64(volume))) > 0 {
				t.Error("P6.6", a, k, "rows leave", worst, "more than", next, "/", volume)
			}
			checked++
		}
	}
	if checked < 300 {
		t.Error("too few checked", checked)
	}
}

func TestTransposedResidual(t *testing.T) { // P6.6
	for _, a := range few(random(), 3) {
		turned := must(cross.Transpose(a))
		for _, p := range picks(a) {
			for i := range a {
				for j := range a[0] {
					got := res(cross.Residual(turned, p.columns, p.rows, j, i))
					expect(t, fmt.Sprint("P6.6 of ", a, p, i, j), got, res(cross.Residual(a, p.rows, p.columns, i, j)))
				}
			}
		}
	}
}
