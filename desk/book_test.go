package desk_test

import (
	"fmt"
	"math"
	"slices"
	"strings"
	"testing"

	"facet/api"
	"facet/desk"
)

// bytesOf returns n bytes of any kind.
func bytesOf(n int) string {
	r := random()
	var b []byte
	for range n {
		b = append(b, byte(r.IntN(256)))
	}
	return string(b)
}

func TestSum(t *testing.T) { // P9.5
	expect(t, "P9.5 Sum of nothing", desk.Sum(0, ""), 0)
	expect(t, "P9.5 Sum of a byte", desk.Sum(0, "d"), 101)
	expect(t, "P9.5 Sum of day", desk.Sum(0, "day"), 696239)
	expect(t, "P9.5 Sum after 1", desk.Sum(1, "\x00"), 258)
	for _, before := range []int{0, 1, -1, 2, 1000002, 1000003, 1000004, -1000002, -1000003, -1000004, 123456789, math.MinInt, math.MinInt + 1, math.MaxInt, math.MaxInt - 1} {
		for _, text := range []string{"", "\x00", "\xff", "day", "octa a 1", "é", "日本語", "\xff\xfe", "a\x80b", "\n\n", strings.Repeat("\xff", 50), bytesOf(20000)} {
			got := desk.Sum(before, text)
			expect(t, fmt.Sprintf("P9.5 Sum(%d, %.20q)", before, text), got, sumOf(before, text))
		}
	}
	whole := bytesOf(300)
	for i := range whole {
		expect(t, "P9.5 Sum in two parts", desk.Sum(desk.Sum(7, whole[:i]), whole[i:]), desk.Sum(7, whole))
	}
}

func TestBook(t *testing.T) { // P9.5, P9.6: what is written down
	d := deskOf(t, 0)
	expect(t, "P9.6 Book", d.Book(), "")
	accepts(t, d, "day")
	expect(t, "P9.6 Book", d.Book(), "696239 day\n")
	d.Do("days")
	d.Do("octa a 0")
	d.Do("turn a")
	accepts(t, d, "octa a 1")
	d.Do("even a 0")
	accepts(t, d, "turn a")
	expect(t, "P9.6 Book", d.Book(), bookOf("day", "octa a 1", "turn a"))
	orders, rest := desk.Read(d.Book())
	if !slices.Equal(orders, []string{"day", "octa a 1", "turn a"}) || rest != "" {
		t.Error("P9.5 Read", orders, rest)
	}
}

// reads expects that Read says what the reference says.
func reads(t *testing.T, book string) {
	t.Helper()
	orders, rest := desk.Read(book)
	wantOrders, wantRest := readOf(book)
	if !slices.Equal(orders, wantOrders) || rest != wantRest {
		t.Errorf("P9.5 Read(%q): %q and %q, want %q and %q", book, orders, rest, wantOrders, wantRest)
	}
}

// someBook is a notebook of lines, among which are some that no desk accepts.
func someBook() string {
	return bookOf("octa a 1", "day", " ", "  even  a ", "~", strings.Repeat("x", 100), "0 1 2", "day")
}

func TestRead(t *testing.T) { // P9.5: whole notebooks
	orders, rest := desk.Read(someBook())
	if len(orders) != 8 || rest != "" || bookOf(orders...) != someBook() {
		t.Errorf("P9.5 Read: %q and %q", orders, rest)
	}
	orders, rest = desk.Read("")
	if len(orders) != 0 || rest != "" {
		t.Errorf("P9.5 Read of nothing: %q and %q", orders, rest)
	}
}

func TestReadOfACutBook(t *testing.T) { // P9.5, S8 and example 10 of the overview
	book := someBook()
	all, _ := desk.Read(book)
	for i := range len(book) + 1 {
		reads(t, book[:i])
		orders, rest := desk.Read(book[:i])
		lines := strings.Count(book[:i], "\n")
		if !slices.Equal(orders, all[:lines]) || bookOf(orders...)+rest != book[:i] || strings.Contains(rest, "\n") {
			t.Errorf("P9.5 Read of the first %d bytes: %q and %q", i, orders, rest)
		}
	}
}

func TestReadOfAnAlteredBook(t *testing.T) { // P9.5: no byte of a line may be another one
	book := someBook()
	for i := range book {
		for _, b := range []byte{0, '\n', '\r', ' ', '0', '1', '-', '+', 'a', 'b', 126, 127, 128, 255, book[i] + 1, book[i] - 1} {
			altered := book[:i] + string([]byte{b}) + book[i+1:]
			reads(t, altered)
			orders, _ := desk.Read(altered)
			if lines := strings.Count(book[:i], "\n"); b != book[i] && len(orders) != lines {
				t.Errorf("P9.5 Read of the book with %q at %d: %q", b, i, orders)
			}
			reads(t, book[:i]+string([]byte{b})+book[i:])
		}
		reads(t, book[:i]+book[i+1:])
		reads(t, book[i:])
	}
}

func TestReadOfWrongLines(t *testing.T) { // P9.5: lines that are not written as a desk writes them
	day := sumOf(0, "day")
	lines := []string{
		"", "\n", " \n", "day\n", "day", "0 \n", "0\n", "0 day\n",
		fmt.Sprintf("0%d day\n", day), fmt.Sprintf("+%d day\n", day), fmt.Sprintf(" %d day\n", day), fmt.Sprintf("%d  day\n", day),
		fmt.Sprintf("%d\tday\n", day), fmt.Sprintf("%d day\r\n", day), fmt.Sprintf("%d day", day), fmt.Sprintf("%d day \n", day),
		fmt.Sprintf("%d day\n", day+1000003), fmt.Sprintf("%d day\n", day-1000003), fmt.Sprintf("%d.0 day\n", day), fmt.Sprintf("%d", day),
		fmt.Sprintf("%d day\n", sumOf(1, "day")), fmt.Sprintf("%d\n", sumOf(0, "")), fmt.Sprintf("%d \n", sumOf(0, "")),
	}
	for _, order := range []string{"\x1f", "\x7f", "\x80", "é", "a\tb", "\xff", strings.Repeat("x", 101), "日本", "a\x00", "\xef\xbf\xbd"} {
		lines = append(lines, fmt.Sprintf("%d %s\n", sumOf(0, order), order))
	}
	for _, line := range lines {
		reads(t, line)
		orders, rest := desk.Read(line)
		if len(orders) != 0 || rest != line {
			t.Errorf("P9.5 Read(%q): %q and %q", line, orders, rest)
		}
		reads(t, bookOf("octa a 1", "turn a")+line)
		reads(t, line+bookOf("octa a 1", "turn a"))
		reads(t, bookOf("octa a 1")+line+bookOf("octa a 1", "turn a")[len(bookOf("octa a 1")):])
	}
}

func TestReadOfALongBook(t *testing.T) { // P9.5: at most MaxLines lines
	var orders []string
	for i := range 130 {
		orders = append(orders, fmt.Sprint("order ", i))
	}
	for _, n := range []int{99, 100, 101, 130} {
		book := bookOf(orders[:n]...)
		got, rest := desk.Read(book)
		first := min(n, api.MaxLines)
		if !slices.Equal(got, orders[:first]) || rest != book[len(bookOf(orders[:first]...)):] {
			t.Errorf("P9.5 Read of %d lines: %q and %q", n, got, rest)
		}
	}
	reads(t, bytesOf(100000))
	reads(t, strings.Repeat("x", 1<<20)+"\n")
	reads(t, bookOf("day")+strings.Repeat("1 ", 1<<20))
}
