package desk_test

import (
	"fmt"
	"math"
	"slices"
	"strings"
	"sync"
	"testing"

	"facet/api"
	"facet/desk"
)

func TestNewDesk(t *testing.T) { // P9.6
	for _, budget := range []int{0, 1, 2000, api.MaxBudget} {
		d, e := desk.New(budget)
		expect(t, "P9.6 New", e, api.OK)
		modelOf(budget).shows(t, "P9.6 New", d)
		expect(t, "P9.6 Left", d.Left(), budget)
		expect(t, "P9.6 Audit", d.Audit(), true)
	}
	for _, budget := range []int{-1, api.MaxBudget + 1, math.MinInt, math.MaxInt} {
		d, e := desk.New(budget)
		if d != nil || e != api.ErrArg {
			t.Error("P9.6 New", budget, d != nil, e)
		}
	}
}

func TestShape(t *testing.T) { // P9.6
	d := deskOf(t, 9999, "octa a 1", "octa b 2", "even b 0")
	s, e := d.Shape("b")
	if e != api.OK || !sameShapes([]desk.Shape{s}, d.Shapes()[1:]) {
		t.Error("P9.6 Shape", s, e)
	}
	for _, name := range []string{"", "c", "A", "a ", "aa", "1", "\xff", strings.Repeat("a", 99999)} {
		s, e := d.Shape(name)
		if e != api.ErrNone || !sameShapes([]desk.Shape{s}, []desk.Shape{{}}) {
			t.Errorf("P9.6 Shape(%.20q): %v %v", name, s, e)
		}
	}
	accepts(t, d, "move b 9 0 0", "unite a b")
	if _, e := d.Shape("b"); e != api.ErrNone {
		t.Error("P9.6 Shape of one that is no more", e)
	}
}

func TestNil(t *testing.T) { // a nil desk answers, too
	var d *desk.Desk
	for _, order := range []string{"", "day", "octa a 1", "bad"} {
		expect(t, "Do of nil", d.Do(order), api.ErrArg)
	}
	s, e := d.Shape("a")
	if e != api.ErrArg || !sameShapes([]desk.Shape{s}, []desk.Shape{{}}) {
		t.Error("Shape of nil", s, e)
	}
	if len(d.Shapes()) != 0 || d.Day() != 0 || d.Left() != 0 || d.Spent() != 0 || d.Book() != "" || d.Audit() {
		t.Error("a nil desk has something")
	}
}

func TestZeroDesk(t *testing.T) { // a desk that New did not make is as one with the budget 0
	var d desk.Desk
	m := modelOf(0)
	for _, order := range []string{"octa a 1", "even a 0", "day", "finer a", "octa a 1", "copy b a", "bad"} {
		expect(t, order, d.Do(order), m.do(order))
	}
	m.shows(t, "a zero desk", &d)
	expect(t, "P9.6 Audit", d.Audit(), true)
}

// spoil changes all that a shape refers to.
func spoil(s desk.Shape) {
	for i := range s.Mesh.Points {
		s.Mesh.Points[i].X += 99
	}
	for i := range s.Mesh.Faces {
		s.Mesh.Faces[i][0] = 99
	}
	for i := range s.Proofs {
		for k := range s.Proofs[i].Charges {
			s.Proofs[i].Charges[k] = 99
		}
		s.Proofs[i].Span.Lo = 99
	}
}

func TestMemory(t *testing.T) { // R5: results are new memory
	m := modelOf(9999)
	d := must(desk.New(9999))
	for _, order := range []string{"octa a 1", "even a 0", "copy b a", "improve b 0", "copy c b"} {
		expect(t, order, d.Do(order), m.do(order))
	}
	for range 2 {
		shapes := d.Shapes()
		spoil(shapes[1])
		shapes[2].Name = "x"
		if !sameShapes(shapes[:1], m.shapes[:1]) {
			t.Error("R5: the shapes of one result share memory")
		}
		spoil(shapes[2])
		spoil(named(d, "a"))
		_ = append(d.Shapes()[:1], desk.Shape{})
		_ = append(named(d, "a").Proofs, api.Certificate{})
		m.shows(t, "R5", d)
	}
	orders := []string{"octa a 1", "bad", "day"}
	first, _, _ := desk.Run(0, orders)
	first[0] = api.ErrOn
	second, _, _ := desk.Run(0, orders)
	expect(t, "R5 Run", second[0], api.OK)
	if !slices.Equal(orders, []string{"octa a 1", "bad", "day"}) {
		t.Error("R5: Run has changed its argument", orders)
	}
	read, _ := desk.Read(d.Book())
	read[0] = "x"
	m.shows(t, "R5 Read", d)
}

func TestOldResults(t *testing.T) { // R5: what was returned stays as it was while the desk goes on
	d := deskOf(t, 99999, "octa a 1", "octa b 2", "even a 0", "move b 30 0 0")
	shapes, a := d.Shapes(), named(d, "a")
	copies := deskOf(t, 99999, "octa a 1", "octa b 2", "even a 0", "move b 30 0 0").Shapes()
	accepts(t, d, "improve a 0", "turn b", "finer a", "unite b a", "day", "octa a 1")
	if !sameShapes(shapes, copies) || !sameShapes([]desk.Shape{a}, copies[:1]) {
		t.Error("R5: results have changed", shapes, a)
	}
}

func TestTwoDesks(t *testing.T) { // a desk knows nothing of another one
	a, b := deskOf(t, 300, "octa a 1"), deskOf(t, 300, "octa a 1")
	accepts(t, a, "even a 0", "octa b 1")
	accepts(t, b, "even a 0", "even a 0")
	expect(t, "Left", a.Left(), 300-128)
	expect(t, "Left", b.Left(), 300-2*128)
	expect(t, "Book", a.Book(), bookOf("octa a 1", "even a 0", "octa b 1"))
	expect(t, "Book", b.Book(), bookOf("octa a 1", "even a 0", "even a 0"))
}

// together runs n goroutines, and returns when all have ended.
func together(n int, do func(k int)) {
	var all sync.WaitGroup
	for k := range n {
		all.Add(1)
		go func() {
			defer all.Done()
			do(k)
		}()
	}
	all.Wait()
}

func TestGoroutines(t *testing.T) { // several goroutines may use a desk at the same time
	d := deskOf(t, 300, "octa a 1")
	var found [8][]api.Errno
	together(len(found), func(k int) {
		for i := range 30 {
			order := []string{"day", "even a 0", fmt.Sprint("octa s", i%7, " 1"), "turn a", "mirror a"}[(i+k)%5]
			found[k] = append(found[k], d.Do(order))
		}
	})
	accepted := 1
	for _, l := range found {
		for _, e := range l {
			if e == api.OK {
				accepted++
			}
		}
	}
	orders, rest := desk.Read(d.Book())
	if len(orders) != accepted || rest != "" {
		t.Errorf("%d orders were accepted, and %d written down", accepted, len(orders))
	}
	m := modelOf(300)
	for _, order := range orders {
		expect(t, order, m.do(order), api.OK)
	}
	m.shows(t, "the desk of several goroutines", d)
	expect(t, "P9.6 Audit", d.Audit(), true)
}

func TestOneMoment(t *testing.T) { // each call takes effect at one moment
	d := deskOf(t, 300, "octa a 1")
	together(6, func(k int) {
		for range 15 {
			switch k {
			case 0, 1:
				d.Do("day")
				d.Do("even a 0")
				d.Do("turn a")
			case 2:
				for _, s := range d.Shapes() {
					if len(s.Proofs) == 0 && s.Span != (api.Span{}) || len(s.Proofs) > 0 && s.Span == (api.Span{}) {
						t.Error("a shape of two moments", s)
					}
				}
			case 3:
				if _, rest := desk.Read(d.Book()); rest != "" {
					t.Error("a notebook of two moments", rest)
				}
			case 4:
				if !d.Audit() {
					t.Error("an audit of two moments")
				}
			case 5:
				if named(d, "a").Name != "a" || d.Left() > 300 || d.Spent()%128 != 0 || d.Day() < 0 {
					t.Error("a desk of two moments")
				}
			}
		}
	})
}

func TestEqualCalls(t *testing.T) { // R11
	orders := []string{"block a 1 9 9", "finer a", "improve a 0", "copy b a", "improve b 0", "even b 1"}
	for range 3 {
		first, second := deskOf(t, 99999, orders...), deskOf(t, 99999, orders...)
		if !sameShapes(first.Shapes(), second.Shapes()) || first.Book() != second.Book() || first.Left() != second.Left() {
			t.Error("R11", first.Shapes(), second.Shapes())
		}
		a, b := named(first, "a"), named(first, "b")
		if !sameProof(a.Proofs[0], b.Proofs[0]) {
			t.Error("R11", a.Proofs, b.Proofs)
		}
	}
}
