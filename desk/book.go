package desk

import (
	"strconv"
	"strings"
)

const (
	sumModulus = 1000003
	sumFactor  = 257
)

// Sum returns the sum of a text after the sum before (P9.5).
func Sum(before int, text string) int {
	sum := before % sumModulus
	if sum < 0 {
		sum += sumModulus
	}
	// A range over the string would give runes: the sum is that of bytes.
	for i := range len(text) {
		sum = (sum*sumFactor + int(text[i]) + 1) % sumModulus
	}
	return sum
}

// write returns the notebook of some orders (P9.5).
func write(orders []string) string {
	var book strings.Builder
	sum := 0
	for _, order := range orders {
		sum = Sum(sum, order)
		book.WriteString(strconv.Itoa(sum))
		book.WriteString(" ")
		book.WriteString(order)
		book.WriteString("\n")
	}
	return book.String()
}

// readLine returns the order of the first line of a text, and the rest, if the line is
// one of a notebook after a line with the sum before.
func readLine(before int, text string) (order, rest string, ok bool) {
	line, rest, ended := strings.Cut(text, "\n")
	sum, order, parted := strings.Cut(line, " ")
	if !ended || !parted || !isLine(order) || sum != strconv.Itoa(Sum(before, order)) {
		return "", "", false
	}
	return order, rest, true
}
