package moment

import (
	"slices"
	"strconv"
	"strings"

	"facet/api"
)

// numbersInText is how many numbers moments have.
const numbersInText = 11

// Format writes the numbers of moments, separated by blanks (P4.7).
func Format(m api.Moments) (string, api.Errno) {
	if e := Validate(m); e != api.OK {
		return "", e
	}
	numbers := slices.Concat([]int{m.Charge, m.Total, m.Dipole.X, m.Dipole.Y, m.Dipole.Z}, m.Second[:])
	var words []string
	for _, n := range numbers {
		words = append(words, strconv.Itoa(n))
	}
	return strings.Join(words, " "), api.OK
}

// Parse returns the valid moments whose Format is text (P4.7).
func Parse(text string) (api.Moments, api.Errno) {
	var numbers [numbersInText]int
	for i, word := range strings.SplitN(text, " ", numbersInText) {
		// Whatever Atoi makes of a word: the text has to be what Format writes.
		numbers[i], _ = strconv.Atoi(word)
	}
	m := api.Moments{
		Charge: numbers[0],
		Total:  numbers[1],
		Dipole: api.Point{X: numbers[2], Y: numbers[3], Z: numbers[4]},
		Second: [6]int(numbers[5:]),
	}
	if written, e := Format(m); e != api.OK || written != text {
		return api.Moments{}, api.ErrSyntax
	}
	return m, api.OK
}
