package desk_test

import (
	"fmt"
	"testing"

	"facet/api"
	"facet/desk"
)

// orderAndError is a kind of order, and what became of it.
type orderAndError struct {
	word string
	e    api.Errno
}

// mustHappen are what the random orders must have brought about.
func mustHappen() []orderAndError {
	var all []orderAndError
	add := func(words string, errors ...api.Errno) {
		for _, word := range fields(words) {
			for _, e := range append(errors, api.OK) {
				all = append(all, orderAndError{word, e})
			}
		}
	}
	add("block octa", api.ErrName, api.ErrLarge, api.ErrArg)
	add("copy", api.ErrName, api.ErrLarge, api.ErrNone)
	add("move scale", api.ErrNone, api.ErrArg)
	add("turn mirror", api.ErrNone)
	add("finer", api.ErrNone, api.ErrLarge, api.ErrArg)
	add("unite", api.ErrNone, api.ErrArg, api.ErrLarge)
	add("even improve", api.ErrNone, api.ErrArg, api.ErrBudget)
	add("prove", api.ErrNone, api.ErrArg, api.ErrBudget, api.ErrZero)
	add("day", api.ErrLarge)
	return append(all, orderAndError{"", api.ErrSyntax})
}

func TestModel(t *testing.T) { // P9.1 to P9.6: what orders do, one after the other
	r := random()
	happened := map[orderAndError]bool{}
	for k := range 40 {
		budget := one(r, 0, 300, 2000, 9000, 30000)
		d, e := desk.New(budget)
		expect(t, "P9.6 New", e, api.OK)
		m := modelOf(budget)
		for range one(r, 20, 60, 300) {
			order := m.randomOrder(r)
			got, want := d.Do(order), m.do(order)
			said, _ := understood(order)
			happened[orderAndError{said.word, want}] = true
			what := fmt.Sprintf("desk %d after %q", k, order)
			expect(t, what, got, want)
			if !m.shows(t, what, d) {
				return
			}
		}
		expect(t, fmt.Sprint("P9.6 Audit of desk ", k), d.Audit(), true)
	}
	for _, o := range mustHappen() {
		if !happened[o] {
			t.Error("the test has never seen", o)
		}
	}
}
