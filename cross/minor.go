package cross

// minor returns the determinant of the submatrix of some rows and as many columns,
// in the order in which they are listed.
func minor(a [][]int, rows, columns []int) int {
	square := make([][]int, len(rows))
	for k, i := range rows {
		for _, j := range columns {
			square[k] = append(square[k], a[i][j])
		}
	}
	return determinant(square)
}

// determinant expands a square matrix along its first row. No division is needed, and
// no sum goes beyond 6! * 100^6, so that all numbers fit into an int.
func determinant(square [][]int) int {
	if len(square) == 0 {
		return 1
	}
	sum, sign := 0, 1
	for j, n := range square[0] {
		if n != 0 {
			sum += sign * n * determinant(without(square[1:], j))
		}
		sign = -sign
	}
	return sum
}

// without returns a copy of rows that lacks the column j.
func without(rows [][]int, j int) [][]int {
	narrower := make([][]int, len(rows))
	for i, row := range rows {
		narrower[i] = make([]int, len(row)-1)
		copy(narrower[i], row[:j])
		copy(narrower[i][j:], row[j+1:])
	}
	return narrower
}
