package desk_test

import (
	"fmt"
	"math"
	"slices"
	"strings"
	"testing"

	"facet/api"
	"facet/desk"
)

// replays expects that a desk is made again from a notebook.
func replays(t *testing.T, budget int, book string) *desk.Desk {
	t.Helper()
	d, n, e := desk.Replay(budget, book)
	if orders, _ := readOf(book); e != api.OK || n != len(orders) || d == nil {
		t.Errorf("P9.7 Replay(%d, %q): %d %v", budget, book, n, e)
	}
	return d
}

// replayFails expects the error of Replay, and a number with it.
func replayFails(t *testing.T, budget int, book string, number int, reason api.Errno) {
	t.Helper()
	if d, n, e := desk.Replay(budget, book); d != nil || n != number || e != reason {
		t.Errorf("P9.7 Replay(%d, %q): %v %d %v, want %d %v", budget, book, d != nil, n, e, number, reason)
	}
}

func TestReplay(t *testing.T) { // P9.7, S8: any first lines make the desk as it was then
	r := random()
	for range 12 {
		budget := one(r, 500, 5000, 30000)
		m := modelOf(budget)
		d := must(desk.New(budget))
		for range one(r, 10, 40) {
			order := m.randomOrder(r)
			expect(t, fmt.Sprintf("%q", order), d.Do(order), m.do(order))
			m.shows(t, "P9.7 the desk that is made again", replays(t, budget, d.Book()))
		}
		expect(t, "P9.6 Audit", replays(t, budget, d.Book()).Audit(), true)
	}
}

func TestReplayGoesOn(t *testing.T) { // P9.7: a desk that is made again is a desk as any other
	d := replays(t, 2000, deskOf(t, 2000, "octa a 1", "even a 1").Book())
	refuses(t, d, "even a 1", api.ErrBudget)
	accepts(t, d, "day", "even a 1")
	expect(t, "P9.7 Book", d.Book(), bookOf("octa a 1", "even a 1", "day", "even a 1"))
	full := deskOf(t, 0)
	for range api.MaxLines {
		accepts(t, full, "day")
	}
	refuses(t, replays(t, 0, full.Book()), "day", api.ErrLarge)
	replays(t, api.MaxBudget, full.Book())
	expect(t, "P9.7 Replay of nothing", replays(t, 0, "").Book(), "")
}

func TestReplayFails(t *testing.T) { // P9.7: the errors of Replay, in their order
	good := bookOf("octa a 1", "day", "even a 0")
	for _, budget := range []int{-1, api.MaxBudget + 1, math.MinInt, math.MaxInt} {
		replayFails(t, budget, good, 0, api.ErrArg)
		replayFails(t, budget, "broken", 0, api.ErrArg)
		replayFails(t, budget, bookOf("bad"), 0, api.ErrArg)
	}
	replayFails(t, 0, "broken", 0, api.ErrBroken)
	replayFails(t, 0, good+" ", 0, api.ErrBroken)
	replayFails(t, 0, bookOf("day", "bad")+"x", 0, api.ErrBroken)
	replayFails(t, 999, good[:len(good)-1], 0, api.ErrBroken)
	replayFails(t, 999, good[1:], 0, api.ErrBroken)
	long := deskOf(t, 0)
	for range api.MaxLines {
		accepts(t, long, "day")
	}
	orders, _ := desk.Read(long.Book())
	replayFails(t, 0, bookOf(append(orders, "day")...), 0, api.ErrBroken)

	replayFails(t, 999, bookOf("bad"), 0, api.ErrSyntax)
	replayFails(t, 999, bookOf("octa a 1", "day "), 1, api.ErrSyntax)
	replayFails(t, 127, good, 2, api.ErrBudget)
	replayFails(t, 999, bookOf("octa a 1", "day", "octa a 1", "bad"), 2, api.ErrName)
	replayFails(t, 999, bookOf("turn a", "octa a 1"), 0, api.ErrNone)
	replayFails(t, 999, bookOf("octa a 1", "scale a 0", "turn x"), 1, api.ErrArg)
}

func TestRun(t *testing.T) { // P9.7
	orders := []string{"octa a 1", "even a 1", "even a 1", "octa a 2", "", "day", "even a 1", "turn b", "improve a 9"}
	found, book, e := desk.Run(2000, orders)
	want := []api.Errno{api.OK, api.OK, api.ErrBudget, api.ErrName, api.ErrSyntax, api.OK, api.OK, api.ErrNone, api.ErrArg}
	if !slices.Equal(found, want) || book != bookOf("octa a 1", "even a 1", "day", "even a 1") || e != api.OK {
		t.Error("P9.7 Run", found, book, e)
	}
	found, book, e = desk.Run(0, nil)
	if len(found) != 0 || book != "" || e != api.OK {
		t.Error("P9.7 Run of nothing", found, book, e)
	}
	r := random()
	for range 10 {
		m := modelOf(9000)
		var orders []string
		var want []api.Errno
		for range 60 {
			orders = append(orders, m.randomOrder(r))
			want = append(want, m.do(orders[len(orders)-1]))
		}
		found, book, e := desk.Run(9000, orders)
		if !slices.Equal(found, want) || book != bookOf(m.orders...) || e != api.OK {
			t.Error("P9.7 Run", orders, found, "want", want, book, e)
		}
	}
}

func TestRunFails(t *testing.T) { // P9.7: the errors of Run itself, in their order
	full := slices.Repeat([]string{"day"}, api.MaxLines)
	found, book, e := desk.Run(0, full)
	if len(found) != api.MaxLines || slices.Max(found) != api.OK || book != bookOf(full...) || e != api.OK {
		t.Error("P9.7 Run", found, book, e)
	}
	fails := func(budget int, orders []string, reason api.Errno) {
		t.Helper()
		if found, book, e := desk.Run(budget, orders); len(found) != 0 || book != "" || e != reason {
			t.Error("P9.7 Run", budget, len(orders), found, book, e)
		}
	}
	fails(0, append(full, "day"), api.ErrLarge)
	fails(0, append(full, ""), api.ErrLarge)
	for _, budget := range []int{-1, api.MaxBudget + 1, math.MinInt, math.MaxInt} {
		fails(budget, full, api.ErrArg)
		fails(budget, append(full, "day"), api.ErrArg)
		fails(budget, nil, api.ErrArg)
	}
}

// merges expects the result of Merge.
func merges(t *testing.T, a, b, book string, n int, reason api.Errno) {
	t.Helper()
	if got, m, e := desk.Merge(a, b); got != book || m != n || e != reason {
		t.Errorf("P9.7 Merge(%q, %q): %q %d %v, want %q %d %v", a, b, got, m, e, book, n, reason)
	}
}

func TestMerge(t *testing.T) { // P9.7
	orders := []string{"octa a 1", "day", "a", "~", "day", "day"}
	for i := range len(orders) + 1 {
		for j := range len(orders) + 1 {
			a, b := bookOf(orders[:i]...), bookOf(orders[:j]...)
			longer := max(i, j)
			merges(t, a, b, bookOf(orders[:longer]...), longer, api.OK)
			for k := range min(i, j) {
				other := slices.Clone(orders[:j])
				other[k] += "x"
				merges(t, a, bookOf(other...), "", k, api.ErrProof)
				merges(t, bookOf(other...), a, "", k, api.ErrProof)
			}
		}
	}
}

func TestMergeOfBroken(t *testing.T) { // P9.7: one that is not whole comes before what differs
	good, other := bookOf("octa a 1", "day"), bookOf("octa b 1", "day", "day")
	for _, broken := range []string{"x", "\n", good + "x", good[1:], good[:len(good)-1], other + " ", bookOf(slices.Repeat([]string{"day"}, 101)...), strings.Replace(good, "day", "dax", 1)} {
		for _, whole := range []string{"", good, other, broken} {
			merges(t, broken, whole, "", 0, api.ErrBroken)
			merges(t, whole, broken, "", 0, api.ErrBroken)
		}
	}
	merges(t, good, other, "", 0, api.ErrProof)
	full := slices.Repeat([]string{"day"}, api.MaxLines)
	merges(t, bookOf(full...), bookOf(full[1:]...), bookOf(full...), api.MaxLines, api.OK)
}

func TestCrash(t *testing.T) { // S8: after any crash the desk goes on from a beginning of its notebook
	budget := 2000
	d := must(desk.New(budget))
	var then []*model
	m := modelOf(budget)
	for _, order := range []string{"", "octa a 1", "even a 1", "copy b a", "day", "move b 9 9 9", "improve a 0", "unite b a"} {
		if order != "" {
			expect(t, fmt.Sprintf("%q", order), d.Do(order), m.do(order))
		}
		was := *m
		was.shapes, was.orders = slices.Clone(m.shapes), slices.Clone(m.orders)
		then = append(then, &was)
	}
	book := d.Book()
	for i := range len(book) + 1 {
		torn := book[:i]
		orders, rest := desk.Read(torn)
		whole := torn[:len(torn)-len(rest)]
		what := fmt.Sprintf("S8 torn at %d", i)
		then[len(orders)].shows(t, what, replays(t, budget, whole))
		merges(t, whole, book, book, len(then)-1, api.OK)
	}
}
