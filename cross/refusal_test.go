package cross_test

import (
	"fmt"
	"reflect"
	"slices"
	"testing"

	"facet/api"
	"facet/cross"
)

// asked are the arguments of a function, as far as it has them.
type asked struct {
	a             [][]int
	rows, columns []int
	i, j, k       int
	x             []int
	bound         api.Rat
}

// fault is an error of one of the arguments, whatever the others are.
type fault func(q asked) api.Errno

// asker calls a function, and lists what it may find wrong, in the order of the chapter.
type asker struct {
	name   string
	faults []fault
	call   func(q asked) []any
}

func values(l ...any) []any { return l }

func unless(ok bool, e api.Errno) api.Errno {
	if ok {
		return api.OK
	}
	return e
}

func noChoice(q asked) api.Errno {
	ok := len(q.rows) == len(q.columns) && slices.IsSorted(q.rows) && slices.IsSorted(q.columns)
	for k := range q.rows {
		ok = ok && slices.Index(q.rows, q.rows[k]) == k && q.rows[k] >= 0 && q.rows[k] < len(q.a)
	}
	for k := range q.columns {
		ok = ok && slices.Index(q.columns, q.columns[k]) == k && q.columns[k] >= 0 && q.columns[k] < len(q.a[0])
	}
	return unless(ok, api.ErrArg)
}

func noFactor(q asked) api.Errno {
	return unless(len(q.x) == len(q.a[0]) && slices.Max(q.x) <= 1000 && slices.Min(q.x) >= -1000, api.ErrArg)
}

func noMinor(q asked) api.Errno {
	return unless(referenceMinor(q.a, pick{q.rows, q.columns}) != 0, api.ErrZero)
}

func noElement(q asked) api.Errno {
	return unless(q.i >= 0 && q.i < len(q.a) && q.j >= 0 && q.j < len(q.a[0]), api.ErrNone)
}

func noBound(q asked) api.Errno {
	return unless(!slices.Contains(noBounds(), q.bound), api.ErrArg)
}

func noProof(q asked) api.Errno {
	return unless(referenceCheck(referenceLeft(q.a, pick{q.rows, q.columns}), q.bound) == api.OK, api.ErrProof)
}

func noSize(q asked) api.Errno {
	return unless(q.k >= 0 && q.k <= min(len(q.a), len(q.a[0])), api.ErrArg)
}

func noRows(q asked) api.Errno {
	return noChoice(asked{a: filled(len(q.a), len(q.a), func(i, j int) int { return 0 }), rows: q.rows, columns: q.rows})
}

func tooManyRows(q asked) api.Errno {
	return unless(len(q.rows) <= len(q.a[0]), api.ErrArg)
}

func askers() []asker {
	return []asker{
		{"Validate", nil, func(q asked) []any { return values(cross.Validate(q.a)) }},
		{"Minor", []fault{noChoice}, func(q asked) []any { n, e := cross.Minor(q.a, q.rows, q.columns); return values(n, e) }},
		{"Rank", nil, func(q asked) []any { n, e := cross.Rank(q.a); return values(n, e) }},
		{"Volume", []fault{noSize}, func(q asked) []any { n, e := cross.Volume(q.a, q.k); return values(n, e) }},
		{"Largest", []fault{noSize}, func(q asked) []any {
			rows, columns, e := cross.Largest(q.a, q.k)
			return values(rows, columns, e)
		}},
		{"Residual", []fault{noChoice, noMinor, noElement}, func(q asked) []any {
			x, e := cross.Residual(q.a, q.rows, q.columns, q.i, q.j)
			return values(x, e)
		}},
		{"Skeleton", []fault{noChoice, noMinor}, func(q asked) []any {
			m, e := cross.Skeleton(q.a, q.rows, q.columns)
			return values(m, e)
		}},
		{"Worst", []fault{noChoice, noMinor}, func(q asked) []any { x, e := cross.Worst(q.a, q.rows, q.columns); return values(x, e) }},
		{"Check", []fault{noChoice, noMinor, noBound, noProof}, func(q asked) []any {
			return values(cross.Check(q.a, q.rows, q.columns, q.bound))
		}},
		{"Fewest", []fault{noBound}, func(q asked) []any { n, e := cross.Fewest(q.a, q.bound); return values(n, e) }},
		{"Compress", []fault{noBound}, func(q asked) []any {
			rows, columns, e := cross.Compress(q.a, q.bound)
			return values(rows, columns, e)
		}},
		{"Product", []fault{noFactor}, func(q asked) []any { l, e := cross.Product(q.a, q.x); return values(l, e) }},
		{"Fast", []fault{noChoice, noFactor, noMinor}, func(q asked) []any {
			l, e := cross.Fast(q.a, q.rows, q.columns, q.x)
			return values(l, e)
		}},
		{"Off", []fault{noChoice, noFactor, noMinor}, func(q asked) []any {
			x, e := cross.Off(q.a, q.rows, q.columns, q.x)
			return values(x, e)
		}},
		{"Transpose", nil, func(q asked) []any { a, e := cross.Transpose(q.a); return values(a, e) }},
		{"Numbers", []fault{noRows, tooManyRows}, func(q asked) []any { n, e := cross.Numbers(q.a, q.rows); return values(n, e) }},
	}
}

// wantedError is the error that comes first.
func (q asked) wantedError(f asker, ofMatrix api.Errno) api.Errno {
	if ofMatrix != api.OK {
		return ofMatrix
	}
	for _, wrong := range f.faults {
		if e := wrong(q); e != api.OK {
			return e
		}
	}
	return api.OK
}

// isZero reports whether a result is its zero value, or an empty list.
func isZero(v any) bool {
	r := reflect.ValueOf(v)
	return r.IsZero() || r.Kind() == reflect.Slice && r.Len() == 0
}

// cases are arguments with all combinations of faults.
func cases(a [][]int) []asked {
	var l []asked
	for _, p := range append(noChoices()[:12], pick{}, pick{[]int{0}, []int{0}}, pick{numbers(2), numbers(2)}, pick{numbers(2), []int{1, 2}}) {
		for _, x := range [][]int{{1, 2, 3}, {1, 2}, {1001, 0, 0}, {0, 0, -1001}} {
			for _, bound := range []api.Rat{rat(0, 1), rat(7, 2), rat(100, 1), rat(2, 2), {}} {
				for _, at := range [][3]int{{0, 0, 0}, {1, 2, 2}, {2, 0, 3}, {0, 3, -1}} {
					l = append(l, asked{a, p.rows, p.columns, at[0], at[1], at[2], x, bound})
				}
			}
		}
	}
	return l
}

func TestRefusals(t *testing.T) { // R1, R2, R3: all functions, with errors at once
	matrices := []result[[][]int]{
		{[][]int{{1, 2, 3}, {2, 4, 6}}, api.OK},
		{[][]int{{0, 2, 3}, {4, 5, 6}}, api.OK},
		{[][]int{{1, 2, 3}, {4, 5, 7}, {-9, 8, 7}}, api.OK},
	}
	seen := map[api.Errno]int{}
	for _, a := range append(matrices, invalid()...) {
		for _, q := range cases(a.v) {
			for _, f := range askers() {
				want := q.wantedError(f, a.e)
				seen[want]++
				what := fmt.Sprintf("R2 %s %+v", f.name, q)
				checkRefusal(t, what, f.call(q), want)
			}
		}
	}
	for _, e := range []api.Errno{api.OK, api.ErrArg, api.ErrLarge, api.ErrZero, api.ErrNone, api.ErrProof} {
		if seen[e] < 50 {
			t.Error("R2 too few of a kind", seen)
		}
	}
}

func checkRefusal(t *testing.T, what string, got []any, want api.Errno) {
	t.Helper()
	last := len(got) - 1
	expect(t, what, got[last], any(want))
	for _, v := range got[:last] {
		if want != api.OK && !isZero(v) {
			t.Error("R3", what, "returns", got)
		}
	}
}

// roomy is a list in memory that has room for more, and that memory.
func roomy(l ...int) (list, memory []int) {
	memory = append(slices.Clone(l), 77, 77, 77)
	return memory[:len(l)], memory
}

func TestMemory(t *testing.T) { // R5, R11: no argument changes, equal calls are equal
	first, a0 := roomy(3, 1, 2)
	second, a1 := roomy(1, 4, 1)
	third, a2 := roomy(5, 9, 2)
	rows, r := roomy(0)
	columns, c := roomy(1)
	x, y := roomy(1, 2, 3)
	memory := [][]int{a0, a1, a2, r, c, y}
	kept := fmt.Sprint(memory)
	q := asked{[][]int{first, second, third}, rows, columns, 1, 0, 1, x, rat(9, 1)}
	for _, f := range askers() {
		once := f.call(q)
		said := fmt.Sprint(once)
		expect(t, "R5 "+f.name+" changes an argument", fmt.Sprint(memory), kept)
		expect(t, "R11 "+f.name, fmt.Sprint(f.call(q)), said)
		for _, v := range once {
			scribble(reflect.ValueOf(v))
		}
		expect(t, "R5 "+f.name+" shares memory with an argument", fmt.Sprint(memory), kept)
		expect(t, "R5 "+f.name+" keeps memory", fmt.Sprint(f.call(q)), said)
	}
}

// scribble fills the room behind each list of a result, and then the lists themselves.
func scribble(v reflect.Value) {
	if v.Kind() != reflect.Slice {
		return
	}
	for i := range v.Len() {
		scribble(v.Index(i))
	}
	if v.Type().Elem().Kind() == reflect.Slice {
		return
	}
	all := v.Slice(0, v.Cap())
	for i := range all.Len() {
		all.Index(i).Set(reflect.Zero(v.Type().Elem()))
	}
}

func TestSeparateLists(t *testing.T) { // R5: no two lists of one result share memory
	a := [][]int{{3, 1, 2}, {1, 4, 1}, {5, 9, 2}}
	for k := range 4 {
		rows, columns, _ := cross.Largest(a, k)
		checkSeparate(t, "R5 Largest", rows, columns)
		rows, columns, _ = cross.Compress(a, rat(10*(3-k), 1))
		checkSeparate(t, "R5 Compress", rows, columns)
	}
	checkSeparate(t, "R5 Transpose", must(cross.Transpose(a))...)
	checkSeparate(t, "R5 Skeleton", must(cross.Skeleton(a, []int{0}, []int{0}))...)
}

// checkSeparate fills one list after the other, room and all, and looks at the rest.
func checkSeparate[T any](t *testing.T, what string, lists ...[]T) {
	t.Helper()
	for k, l := range lists {
		rest := fmt.Sprint(lists[k+1:])
		scribble(reflect.ValueOf(l))
		expect(t, what, fmt.Sprint(lists[k+1:]), rest)
	}
}

func TestEmptyLists(t *testing.T) { // R4: a nil list is an empty one
	a := [][]int{{2, 1}, {1, 1}}
	for _, f := range askers() {
		q := asked{a: a, x: []int{1, 2}, bound: rat(2, 1)}
		withNil := fmt.Sprint(f.call(q))
		q.rows, q.columns = []int{}, []int{}
		expect(t, "R4 "+f.name, fmt.Sprint(f.call(q)), withNil)
	}
}
