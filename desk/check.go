package desk

import "facet/api"

func inRange(n, from, to int) bool {
	return from <= n && n <= to
}

func isLetter(c rune) bool {
	return 'a' <= c && c <= 'z'
}

func isDigit(c rune) bool {
	return '0' <= c && c <= '9'
}

// isLine reports whether a text may be an order in a notebook. It has a byte that may
// not be in a line where it has a rune that may not: each byte above 126 is a part of
// such a rune.
func isLine(text string) bool {
	if !inRange(len(text), 1, api.MaxLine) {
		return false
	}
	for _, c := range text {
		if c < ' ' || c > '~' {
			return false
		}
	}
	return true
}

// isNoWord reports whether a text is not of one or more letters and digits.
func isNoWord(text string) bool {
	for _, c := range text {
		if !isLetter(c) && !isDigit(c) {
			return true
		}
	}
	return text == ""
}

// isName reports whether a word is a valid name.
func isName(word string) bool {
	return len(word) <= api.MaxName && !isDigit(rune(word[0]))
}
