package desk

import (
	"slices"
	"strconv"
	"strings"

	"facet/api"
)

// kind is a kind of order.
type kind int

const (
	blockOrder kind = iota
	octaOrder
	copyOrder
	moveOrder
	scaleOrder
	turnOrder
	mirrorOrder
	finerOrder
	uniteOrder
	evenOrder
	proveOrder
	improveOrder
	dayOrder
)

// pattern says what an order of a kind looks like: a word, then names, then numbers,
// of which there may be more.
type pattern struct {
	word           string
	names, numbers int
	more           bool
}

// patterns are those of all kinds of orders.
var patterns = [...]pattern{
	blockOrder:   {word: "block", names: 1, numbers: 3},
	octaOrder:    {word: "octa", names: 1, numbers: 1},
	copyOrder:    {word: "copy", names: 2},
	moveOrder:    {word: "move", names: 1, numbers: 3},
	scaleOrder:   {word: "scale", names: 1, numbers: 1},
	turnOrder:    {word: "turn", names: 1},
	mirrorOrder:  {word: "mirror", names: 1},
	finerOrder:   {word: "finer", names: 1},
	uniteOrder:   {word: "unite", names: 2},
	evenOrder:    {word: "even", names: 1, numbers: 1},
	proveOrder:   {word: "prove", names: 1, numbers: 2, more: true},
	improveOrder: {word: "improve", names: 1, numbers: 1},
	dayOrder:     {word: "day"},
}

// maxNumber is the greatest absolute value of a number in an order.
const maxNumber = 1000

// order is an order that has the form of its kind.
type order struct {
	kind    kind
	names   []string
	numbers []int
}

// parse returns the order that a text is, or a refused error.
func parse(text string) (order, error) {
	if isLine(text) {
		words := strings.Split(text, " ")
		for k, p := range patterns {
			if p.word == words[0] {
				return p.read(kind(k), words[1:])
			}
		}
	}
	return order{}, refused{api.ErrSyntax}
}

// read returns the order of a kind that has these words after the first one.
func (p pattern) read(k kind, words []string) (order, error) {
	least := p.names + p.numbers
	if len(words) < least || len(words) > least && !p.more {
		return order{}, refused{api.ErrSyntax}
	}
	names := words[:p.names]
	if slices.ContainsFunc(names, isNoWord) {
		return order{}, refused{api.ErrSyntax}
	}
	var numbers []int
	for _, word := range words[p.names:] {
		n, ok := number(word)
		if !ok {
			return order{}, refused{api.ErrSyntax}
		}
		numbers = append(numbers, n)
	}
	return order{k, names, numbers}, nil
}

// number returns the number that a word is. Atoi takes more than is allowed, as +1 and
// 01, but only what is allowed comes out again.
func number(word string) (int, bool) {
	n, err := strconv.Atoi(word)
	if err != nil || strconv.Itoa(n) != word || !inRange(n, -maxNumber, maxNumber) {
		return 0, false
	}
	return n, true
}
