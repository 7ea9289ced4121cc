package cross_test

import (
	"fmt"
	"testing"

	"facet/api"
	"facet/cross"
)

func TestVolume(t *testing.T) { // P6.2
	for _, a := range matrices(random()) {
		for k := range min(len(a), len(a[0])) + 1 {
			checkVolume(t, a, k)
		}
	}
	for _, a := range tiny(2, 3) {
		for k := range 3 {
			checkVolume(t, a, k)
		}
	}
}

// checkVolume also checks that Largest returns a choice: Minor takes no other lists.
func checkVolume(t *testing.T, a [][]int, k int) {
	t.Helper()
	what := fmt.Sprint("P6.2 of ", k, " rows of ", a)
	want := referenceVolume(a, k)
	expect(t, what+" Volume", res(cross.Volume(a, k)), res(want, api.OK))
	rows, columns, e := cross.Largest(a, k)
	expect(t, what+" Largest", e, api.OK)
	expect(t, what+" Largest, rows", len(rows), k)
	minor, e := cross.Minor(a, rows, columns)
	expect(t, what+" Largest, a choice", e, api.OK)
	expect(t, what+" Largest, its minor", max(minor, -minor), want)
}

func TestVolumeExamples(t *testing.T) { // P6.2
	a := [][]int{{1, -7}, {2, 3}}
	expect(t, "P6.2 of no rows", res(cross.Volume(a, 0)), res(1, api.OK))
	expect(t, "P6.2 of one row", res(cross.Volume(a, 1)), res(7, api.OK))
	expectAlike(t, "P6.2 of one row", picked(cross.Largest(a, 1)), res(pick{[]int{0}, []int{1}}, api.OK))
	expect(t, "P6.2 of two rows", res(cross.Volume(a, 2)), res(17, api.OK))
	expectAlike(t, "P6.2 of two rows", picked(cross.Largest(a, 2)), res(pick{numbers(2), numbers(2)}, api.OK))
	below := [][]int{{0, 1}, {1, 0}}
	expect(t, "P6.2 of a minor below 0", res(cross.Volume(below, 2)), res(1, api.OK))
	expectAlike(t, "P6.2 of no rows", picked(cross.Largest(a, 0)), res(pick{}, api.OK))
}

func TestVolumeOutside(t *testing.T) { // P6.2
	for _, a := range matrices(random()) {
		side := min(len(a), len(a[0]))
		for _, k := range []int{-1, side + 1, -1 << 63, 1<<63 - 1} {
			what := fmt.Sprint("P6.2 of ", k, " rows of ", a)
			expect(t, what, res(cross.Volume(a, k)), refused[int](api.ErrArg))
			expectAlike(t, what, picked(cross.Largest(a, k)), refused[pick](api.ErrArg))
		}
	}
}
