package cross_test

import (
	"fmt"
	"testing"

	"facet/api"
	"facet/cross"
)

func TestValidate(t *testing.T) { // P6.1
	for _, a := range invalid() {
		expect(t, fmt.Sprint("P6.1 Validate ", a.v), cross.Validate(a.v), a.e)
	}
	for rows := 1; rows <= mostSize; rows++ {
		for columns := 1; columns <= mostSize; columns++ {
			for _, n := range []int{0, mostEntry, -mostEntry} {
				a := filled(rows, columns, func(i, j int) int { return n })
				expect(t, fmt.Sprint("P6.1 Validate ", a), cross.Validate(a), api.OK)
				// Each element counts.
				for i := range a {
					for j := range a[i] {
						a[i][j] = mostEntry + 1
						expect(t, fmt.Sprint("P6.1 Validate ", a), cross.Validate(a), api.ErrArg)
						a[i][j] = -mostEntry - 1
						expect(t, fmt.Sprint("P6.1 Validate ", a), cross.Validate(a), api.ErrArg)
						a[i][j] = n
					}
				}
			}
		}
	}
}

func TestMinor(t *testing.T) { // P6.1
	for _, a := range matrices(random()) {
		for _, p := range picks(a) {
			what := fmt.Sprint("P6.1 Minor of ", a, p)
			expect(t, what, res(cross.Minor(a, p.rows, p.columns)), res(referenceMinor(a, p), api.OK))
		}
	}
}

func TestMinorTiny(t *testing.T) { // P6.1
	all := pick{numbers(3), numbers(3)}
	for _, a := range tiny(3, 3) {
		want := a[0][0]*(a[1][1]*a[2][2]-a[1][2]*a[2][1]) -
			a[0][1]*(a[1][0]*a[2][2]-a[1][2]*a[2][0]) +
			a[0][2]*(a[1][0]*a[2][1]-a[1][1]*a[2][0])
		expect(t, fmt.Sprint("P6.1 Minor of ", a), res(cross.Minor(a, all.rows, all.columns)), res(want, api.OK))
	}
}

func TestMinorExamples(t *testing.T) { // P6.1
	a := [][]int{{1, 2, 3}, {4, 5, 6}}
	expect(t, "P6.1 the empty choice", res(cross.Minor(a, nil, nil)), res(1, api.OK))
	expect(t, "P6.1 one element", res(cross.Minor(a, []int{1}, []int{2})), res(6, api.OK))
	expect(t, "P6.1 two rows", res(cross.Minor(a, []int{0, 1}, []int{0, 2})), res(-6, api.OK))
	expect(t, "P6.1 the greatest", res(cross.Minor(greatest(), numbers(6), numbers(6))), res(160*1000000000000, api.OK))
}

// noChoices are no choices of a matrix with two rows and three columns.
func noChoices() []pick {
	return []pick{
		{[]int{0}, nil},
		{nil, []int{0}},
		{[]int{0}, []int{0, 1}},
		{[]int{0, 1}, []int{2}},
		{[]int{-1}, []int{0}},
		{[]int{2}, []int{0}},
		{[]int{0}, []int{-1}},
		{[]int{0}, []int{3}},
		{[]int{-1 << 63}, []int{0}},
		{[]int{0}, []int{1<<63 - 1}},
		{[]int{1, 0}, []int{0, 1}},
		{[]int{0, 1}, []int{1, 0}},
		{[]int{0, 0}, []int{0, 1}},
		{[]int{0, 1}, []int{1, 1}},
		{[]int{1, 2}, []int{0, 1}},
		{[]int{0, 1}, []int{2, 3}},
		{[]int{0, 1, 2}, []int{0, 1, 2}},
		{[]int{0, 1, 1}, []int{0, 1, 2}},
		{make([]int, 9), make([]int, 9)},
	}
}

func TestNoChoice(t *testing.T) { // P6.1
	a := [][]int{{1, 2, 3}, {4, 5, 6}}
	for _, p := range noChoices() {
		expect(t, fmt.Sprint("P6.1 Minor, no choice ", p), res(cross.Minor(a, p.rows, p.columns)), refused[int](api.ErrArg))
	}
}

func TestRank(t *testing.T) { // P6.1
	seen := map[int]int{}
	for _, a := range append(matrices(random()), tiny(2, 3)...) {
		want := referenceRank(a)
		seen[want]++
		expect(t, fmt.Sprint("P6.1 Rank of ", a), res(cross.Rank(a)), res(want, api.OK))
	}
	r := random()
	for k := range mostSize + 1 {
		for range 20 {
			a := ofRank(r, mostSize, mostSize, k)
			want := referenceRank(a)
			seen[want]++
			expect(t, fmt.Sprint("P6.1 Rank of ", a), res(cross.Rank(a)), res(want, api.OK))
		}
		if seen[k] < 10 {
			t.Error("too few of a rank", seen)
		}
	}
}

func TestTranspose(t *testing.T) { // P6.1
	for _, a := range matrices(random()) {
		want := filled(len(a[0]), len(a), func(i, j int) int { return a[j][i] })
		got, e := cross.Transpose(a)
		expectAlike(t, fmt.Sprint("P6.1 Transpose of ", a), res(got, e), res(want, api.OK))
		expectAlike(t, fmt.Sprint("P6.1 Transpose of ", want), must(cross.Transpose(got)), a)
	}
}

func TestNumbers(t *testing.T) { // P6.1
	for rows := 1; rows <= mostSize; rows++ {
		for columns := 1; columns <= mostSize; columns++ {
			a := filled(rows, columns, func(i, j int) int { return 0 })
			for k := range rows + 1 {
				want := res(k*(rows+columns)-k*k, api.OK)
				if k > columns {
					want = refused[int](api.ErrArg)
				}
				for _, l := range subsets(0, rows, k) {
					expect(t, fmt.Sprint("P6.1 Numbers of ", a, l), res(cross.Numbers(a, l)), want)
				}
			}
		}
	}
	a := [][]int{{1, 2, 3}, {4, 5, 6}}
	for _, l := range [][]int{{-1}, {2}, {0, 2}, {1, 0}, {0, 0}, {1, 1}, {0, 1, 2}, {-1 << 63}, {1<<63 - 1}} {
		expect(t, fmt.Sprint("P6.1 Numbers, no set ", l), res(cross.Numbers(a, l)), refused[int](api.ErrArg))
	}
	expect(t, "P6.1 Numbers, example 3", res(cross.Numbers(a, nil)), res(0, api.OK))
	expect(t, "P6.1 Numbers of one row", res(cross.Numbers(a, []int{1})), res(4, api.OK))
}
