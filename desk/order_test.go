package desk_test

import (
	"fmt"
	"slices"
	"strings"
	"testing"

	"facet/api"
	"facet/desk"
	"facet/hold"
	"facet/shape"
)

func fields(text string) []string { return strings.Fields(text) }

func expect[T comparable](t *testing.T, what string, got, want T) {
	t.Helper()
	if got != want {
		t.Errorf("%s: %v, want %v", what, got, want)
	}
}

// must returns a result that has no error.
func must[T any](v T, e api.Errno) T {
	if e != api.OK {
		panic(e)
	}
	return v
}

// deskOf returns a desk that has accepted some orders.
func deskOf(t *testing.T, budget int, orders ...string) *desk.Desk {
	t.Helper()
	d := must(desk.New(budget))
	accepts(t, d, orders...)
	return d
}

func accepts(t *testing.T, d *desk.Desk, orders ...string) {
	t.Helper()
	for _, order := range orders {
		if e := d.Do(order); e != api.OK {
			t.Errorf("%q is refused: %v", order, e)
		}
	}
}

// refuses expects that an order is refused for a reason, and leaves no trace.
func refuses(t *testing.T, d *desk.Desk, order string, reason api.Errno) {
	t.Helper()
	shapes, day, left, spent, book := d.Shapes(), d.Day(), d.Left(), d.Spent(), d.Book()
	if e := d.Do(order); e != reason {
		t.Errorf("%q: %v, want %v", order, e, reason)
	}
	if !sameShapes(d.Shapes(), shapes) || d.Day() != day || d.Left() != left || d.Spent() != spent || d.Book() != book {
		t.Errorf("%q has changed something", order)
	}
}

// named returns the shape with a name.
func named(d *desk.Desk, name string) desk.Shape { return must(d.Shape(name)) }

// namesOf returns the names of all shapes.
func namesOf(d *desk.Desk) string {
	var all []string
	for _, s := range d.Shapes() {
		all = append(all, s.Name)
	}
	return strings.Join(all, " ")
}

func sameMesh(a, b api.Mesh) bool {
	return slices.Equal(a.Points, b.Points) && slices.Equal(a.Faces, b.Faces)
}

// has expects a shape with a mesh and without proofs.
func has(t *testing.T, d *desk.Desk, name string, m api.Mesh) {
	t.Helper()
	s := named(d, name)
	if s.Name != name || !sameMesh(s.Mesh, m) || s.Span != (api.Span{}) || len(s.Proofs) != 0 {
		t.Errorf("shape %s is %v, want the mesh %v", name, s, m)
	}
}

func TestNotAnOrder(t *testing.T) { // an order that has not one of the forms
	d := deskOf(t, api.MaxBudget, "octa a 1", "octa b 2", "block c 1 1 1")
	for _, order := range []string{
		"", " ", "a", "days", "da", "Day", "day ", " day", "day\n", "day 0", "day a", "nothing", "even", "prove",
		"octa", "octa x", "octa  x 1", "octa x  1", " octa x 1", "octa x 1 ", "octa x 1 1", "octa 1", "octa X 1", "octa x_ 1",
		"octa x y", "octa x 01", "octa x +1", "octa x -0", "octa x 00", "octa x 1.0", "octa x 1001", "octa x -1001", "octa x --1",
		"octa x 1_0", "octa x 0x1", "octa x -", "octa x 9999999999999999999999", "octa x 1\x00", "octa é 1", "octa x\xff 1", "octa x\t1",
		"octa -1 1", "octa a- 1", "octa a{ 1", "octa a` 1", "octa a: 1", "octa a/ 1", "octa a~ 1", "OCTA x 1", "octa x 1\x7f", "octa \x1f 1",
		"block", "block x", "block x 1", "block x 1 1", "block x 1 1 1 1", "block 1 1 1", "block x y 1 1", "block x 1 y 1", "block x 1 1 y",
		"copy x", "copy", "copy x a a", "copy x a 1", "copy x -a", "copy x A",
		"move a 1 1", "move a", "move a 1 1 1 1", "move a a 1 1 1", "move a 1 1 1001",
		"scale a", "scale a 1 1", "scale a b", "scale", "turn", "turn a a", "turn a 1", "turn -1", "mirror", "mirror a b", "finer", "finer a 1",
		"unite a", "unite", "unite a b c", "unite a b 1", "unite a B", "unite A b",
		"even a", "even a 0 0", "even a b", "improve a", "improve a 0 1", "improve 0",
		"prove a", "prove a 0", "prove a 0 b", "prove a 0 1 1 1 1 1 1 1 x", "prove a 0 1 1 1 1 1 1 1 1 ", "prove a 0  1 1 1 1 1 1 1 1",
		"prove a 0 1 1 1 1 1 1 1 1001", "prove a 0 01 1 1 1 1 1 1 1",
		"octa " + strings.Repeat("x", 200) + " 1",
	} {
		refuses(t, d, order, api.ErrSyntax)
	}
}

func TestLengthOfAnOrder(t *testing.T) { // an order has at most MaxLine bytes
	d := deskOf(t, 0)
	turn := "turn " + strings.Repeat("a", api.MaxLine-len("turn "))
	refuses(t, d, turn, api.ErrNone)
	refuses(t, d, turn+"a", api.ErrSyntax)
	accepts(t, d, "octa a 1", "day")
	long := "prove a 0" + strings.Repeat(" 1", 45) + " 1"
	refuses(t, d, long, api.ErrSyntax)
	refuses(t, d, long[:99], api.ErrBudget)
	refuses(t, d, long[:99]+"0", api.ErrBudget)
	refuses(t, d, long[:99]+"00", api.ErrSyntax)
}

func TestNumbersOfAnOrder(t *testing.T) { // numbers are from -1000 to 1000
	d := deskOf(t, 0, "octa a 1")
	for _, n := range []string{"1000", "-1000", "0", "-1", "65"} {
		refuses(t, d, "octa b "+n, api.ErrArg)
		refuses(t, d, "even a "+n, map[bool]api.Errno{true: api.ErrBudget, false: api.ErrArg}[n == "0"])
	}
	refuses(t, d, "move a 1000 1000 -1000", api.ErrArg)
}

func TestNames(t *testing.T) { // P9.1: names of new shapes
	d := deskOf(t, 0, "octa a 1", "octa abcdefgh 1", "block z9 1 1 1", "copy b0 a")
	for _, name := range []string{"a", "abcdefgh", "z9", "b0", "abcdefghi", "1", "0a", "9", "a23456789"} {
		for _, order := range []string{"octa NEW 1", "octa NEW 0", "block NEW 1 1 1", "block NEW 0 0 0", "copy NEW a", "copy NEW none", "copy NEW 1"} {
			refuses(t, d, strings.ReplaceAll(order, "NEW", name), api.ErrName)
		}
	}
	expect(t, "P9.1 names", namesOf(d), "a abcdefgh z9 b0")
	accepts(t, d, "octa q 1", "octa z 1", "octa a2345678 1")
}

func TestNew(t *testing.T) { // P9.1: new shapes
	d := deskOf(t, 9999, "block a 1 2 3", "octa b 4", "even b 0", "copy c b", "copy d a")
	has(t, d, "a", must(shape.Block(1, 2, 3)))
	has(t, d, "c", must(shape.Octa(4)))
	has(t, d, "d", must(shape.Block(1, 2, 3)))
	expect(t, "P9.1 the copied shape keeps its proofs", len(named(d, "b").Proofs), 1)
	expect(t, "P9.1 names", namesOf(d), "a b c d")
	refuses(t, d, "block e 1 0 1", api.ErrArg)
	refuses(t, d, "block e 1 1 65", api.ErrArg)
	refuses(t, d, "octa e 0", api.ErrArg)
	refuses(t, d, "octa e -1", api.ErrArg)
	refuses(t, d, "octa e 65", api.ErrArg)
	refuses(t, d, "copy e e", api.ErrNone)
	refuses(t, d, "copy e f", api.ErrNone)
	refuses(t, d, "copy e 1", api.ErrNone)
	accepts(t, d, "octa e 64", "block f 64 1 64")
}

func TestManyShapes(t *testing.T) { // P9.1: at most MaxShapes
	d := deskOf(t, 0)
	for i := range api.MaxShapes {
		accepts(t, d, fmt.Sprintf("octa s%d %d", i, i+1))
	}
	refuses(t, d, "octa x 1", api.ErrLarge)
	refuses(t, d, "octa x 0", api.ErrLarge)
	refuses(t, d, "block x 1 1 1", api.ErrLarge)
	refuses(t, d, "copy x s1", api.ErrLarge)
	refuses(t, d, "copy x none", api.ErrLarge)
	refuses(t, d, "copy s1 none", api.ErrName)
	refuses(t, d, "octa 1x 1", api.ErrName)
	accepts(t, d, "move s0 9 9 9", "unite s0 s7", "octa s7 1")
	refuses(t, d, "octa x 1", api.ErrLarge)
	expect(t, "P9.1 names", namesOf(d), "s0 s1 s2 s3 s4 s5 s6 s7")
}

func TestChange(t *testing.T) { // P9.2: changes of a mesh
	box := must(shape.Block(2, 3, 4))
	far := must(shape.Move(must(shape.Octa(1)), api.Point{X: 20}))
	for order, want := range map[string]api.Mesh{
		"move a 1 -2 3": must(shape.Move(box, api.Point{X: 1, Y: -2, Z: 3})),
		"move a 0 0 0":  box,
		"scale a 3":     must(shape.Scale(box, 3)),
		"scale a 1":     box,
		"turn a":        must(shape.Turn(box)),
		"mirror a":      must(shape.Mirror(box)),
		"finer a":       must(shape.Finer(box)),
		"unite a b":     must(shape.Unite(box, far)),
		"unite b a":     must(shape.Unite(far, box)),
	} {
		d := deskOf(t, 99999, "octa b 1", "move b 20 0 0", "block a 2 3 4", "octa c 1", "even a 0", "even c 0", "even b 0")
		left, spent := d.Left(), d.Spent()
		accepts(t, d, order)
		has(t, d, fields(order)[1], want)
		for _, s := range d.Shapes() {
			if !strings.Contains(order, " "+s.Name) && len(s.Proofs) != 1 {
				t.Error("P9.2", order, "has changed", s.Name)
			}
		}
		expect(t, "P9.2 left after "+order, d.Left(), left)
		expect(t, "P9.2 spent after "+order, d.Spent(), spent)
		expect(t, "P9.2 Audit after "+order, d.Audit(), true)
	}
}

func TestNoChange(t *testing.T) { // P9.2: what is refused, and why
	d := deskOf(t, 99999, "octa a 1", "octa b 1", "block c 40 40 40", "octa f 1", "finer f", "octa g 1", "move g 9 9 9", "finer g",
		"block h 1 1 1", "finer h", "move h -50 0 0", "even a 0")
	for _, order := range []string{
		"move x 0 0 0", "move x 999 0 0", "scale x 1", "scale x 0", "turn x", "mirror x", "finer x", "turn 1", "turn abcdefghi",
		"unite x a", "unite a x", "unite x x", "unite x y",
	} {
		refuses(t, d, order, api.ErrNone)
	}
	for _, order := range []string{
		"move a 129 0 0", "move a 0 -129 0", "move a 64 0 0", "scale a 0", "scale a -1", "scale a 129", "scale a 65", "finer c",
		"unite a a", "unite c c", "unite a b",
	} {
		refuses(t, d, order, api.ErrArg)
	}
	refuses(t, d, "finer f", api.ErrLarge)
	accepts(t, d, "move f 50 0 0", "unite f g")
	refuses(t, d, "unite h f", api.ErrLarge)
	refuses(t, d, "unite f h", api.ErrLarge)
	expect(t, "P9.2 the proof of a is still there", len(named(d, "a").Proofs), 1)
	expect(t, "P9.2 names", namesOf(d), "a b c f h")
}

func TestUnite(t *testing.T) { // P9.2: the other shape is no more, and the others keep their order
	start := []string{"octa a 1", "octa b 1", "move b 5 0 0", "octa c 1", "move c 10 0 0", "octa d 1", "move d 15 0 0"}
	for order, want := range map[string]string{"unite a d": "a b c", "unite d a": "b c d", "unite b c": "a b d", "unite c b": "a c d"} {
		d := deskOf(t, 0, start...)
		accepts(t, d, order)
		expect(t, "P9.2 names after "+order, namesOf(d), want)
		gone := fields(order)[2]
		refuses(t, d, "turn "+gone, api.ErrNone)
		accepts(t, d, "octa "+gone+" 64")
		expect(t, "P9.2 names at the end", namesOf(d), want+" "+gone)
		has(t, d, gone, must(shape.Octa(64)))
	}
}

func TestBudget(t *testing.T) { // P9.3, P9.4, example 1
	d := deskOf(t, 2000, "octa a 1", "even a 1")
	expect(t, "P9.3 left", d.Left(), 720)
	expect(t, "P9.3 spent", d.Spent(), 1280)
	refuses(t, d, "even a 1", api.ErrBudget)
	refuses(t, d, "improve a 1", api.ErrBudget)
	refuses(t, d, "prove a 1 1 1 1 1 1 1 1 1", api.ErrBudget)
	accepts(t, d, "even a 0")
	expect(t, "P9.3 left", d.Left(), 720-128)
	accepts(t, d, "day")
	expect(t, "P9.4 left", d.Left(), 2000)
	expect(t, "P9.4 day", d.Day(), 1)
	expect(t, "P9.4 spent", d.Spent(), 1280+128)
	accepts(t, d, "even a 1", "day", "day")
	expect(t, "P9.4 left", d.Left(), 2000)
	expect(t, "P9.4 day", d.Day(), 3)
	expect(t, "P9.3 spent", d.Spent(), 1280+128+1280)
	expect(t, "P9.3 proofs", len(named(d, "a").Proofs), 3)
}

func TestExactBudget(t *testing.T) { // P9.3: what is left may be taken to the last
	for order, work := range map[string]int{
		"even a 0": 128, "even a 1": 1280, "even a 2": 17408, "improve a 0": 384, "improve a 1": 3840, "improve a 2": 52224,
		"prove a 0 1 1 1 1 1 1 1 1": 128, "prove a 1 1 1 1 1 1 1 1 1": 1280, "even b 1": 2880, "improve b 0": 864,
	} {
		d := deskOf(t, work, "octa a 1", "block b 1 1 1")
		accepts(t, d, order)
		expect(t, "P9.3 left after "+order, d.Left(), 0)
		expect(t, "P9.3 spent after "+order, d.Spent(), work)
		refuses(t, d, order, api.ErrBudget)
		refuses(t, deskOf(t, work-1, "octa a 1", "block b 1 1 1"), order, api.ErrBudget)
	}
}

func TestProof(t *testing.T) { // P9.3: certificates and spans, examples 2 and 3
	d := deskOf(t, 999999, "octa a 1", "block b 1 2 3", "finer b")
	a, b := named(d, "a").Mesh, named(d, "b").Mesh
	accepts(t, d, "even a 0")
	first := must(hold.Prove(a, []int{1, 1, 1, 1, 1, 1, 1, 1}, 0))
	expect(t, "P9.3 Span of one", named(d, "a").Span, first.Span)
	accepts(t, d, "improve a 0")
	second := must(hold.Prove(a, must(hold.Improve(a, 0)), 0))
	accepts(t, d, "prove a 1 1 2 3 4 5 6 7 0")
	third := must(hold.Prove(a, []int{1, 2, 3, 4, 5, 6, 7, 0}, 1))
	accepts(t, d, "prove a 2 0 0 0 0 0 0 0 100")
	fourth := must(hold.Prove(a, []int{0, 0, 0, 0, 0, 0, 0, 100}, 2))
	accepts(t, d, "improve b 0")
	only := must(hold.Prove(b, must(hold.Improve(b, 0)), 0))

	got := named(d, "a")
	all := []api.Certificate{first, second, third, fourth}
	if !slices.EqualFunc(got.Proofs, all, sameProof) {
		t.Error("P9.3 Proofs", got.Proofs, "want", all)
	}
	expect(t, "P9.3 Span", got.Span, must(hold.Narrow(a, all)))
	other := named(d, "b")
	if !slices.EqualFunc(other.Proofs, []api.Certificate{only}, sameProof) {
		t.Error("P9.3 Proofs", other.Proofs, "want", only)
	}
	expect(t, "P9.3 Span", other.Span, only.Span)
	if slices.Max(only.Charges) == slices.Min(only.Charges) {
		t.Error("the test says nothing: the best charges of b are even", only)
	}
	accepts(t, d, "finer a", "even a 0", "turn b")
	expect(t, "P9.2 proofs of the finer one", len(named(d, "a").Proofs), 1)
	expect(t, "P9.3 Span of the finer one", named(d, "a").Span, named(d, "a").Proofs[0].Span)
	has(t, d, "b", must(shape.Turn(b)))
}

func TestSpanOfTwoProofs(t *testing.T) { // P9.3: one proof may be better below, another one above
	low, high := api.Span{Lo: 241363, Hi: 1719573}, api.Span{Lo: 237707, Hi: 1549906}
	for _, order := range []string{"even a 0", "even a 1"} {
		d := deskOf(t, 9999, "block a 1 1 1", order)
		expect(t, "P9.3 Span of one", named(d, "a").Span, map[string]api.Span{"even a 0": low, "even a 1": high}[order])
		accepts(t, d, "even a 0", "even a 1", "even a 0")
		expect(t, "P9.3 Span of both", named(d, "a").Span, api.Span{Lo: low.Lo, Hi: high.Hi})
	}
}

func sameProof(a, b api.Certificate) bool {
	return slices.Equal(a.Charges, b.Charges) && a.Depth == b.Depth && a.Span == b.Span
}

func TestNoProof(t *testing.T) { // P9.3: what is refused, and why
	d := deskOf(t, 1280, "octa a 1")
	for _, order := range []string{"even x 0", "even x 3", "improve x 0", "improve x -1", "prove x 0 1", "prove x 1000 1000", "even 1 0", "even abcdefghi 0"} {
		refuses(t, d, order, api.ErrNone)
	}
	for _, order := range []string{
		"even a 3", "even a -1", "even a 1000", "improve a 3", "improve a -1000", "prove a 3 1", "prove a -1 1 1 1 1 1 1 1 1",
		"prove a 0 1", "prove a 0 1 1 1 1 1 1 1", "prove a 0 1 1 1 1 1 1 1 1 1", "prove a 0 1 1 1 1 1 1 1 101", "prove a 0 -1 1 1 1 1 1 1 1", "prove a 0 0",
	} {
		refuses(t, d, order, api.ErrArg)
	}
	refuses(t, d, "prove a 0 0 0 0 0 0 0 0 0", api.ErrZero)
	refuses(t, d, "prove a 2 0", api.ErrBudget)
	refuses(t, d, "prove a 2 0 0 0 0 0 0 0 0", api.ErrBudget)
	refuses(t, d, "improve a 1", api.ErrBudget)
	expect(t, "P9.3 nothing is taken", d.Left(), 1280)
}

func TestLargeEnergy(t *testing.T) { // P9.3: the error of hold.Prove where its sums are too large
	d := deskOf(t, 99999, "octa a 1")
	charges := []int{100, 100, 100, 100, 100, 100, 100, 100}
	_, want := hold.Prove(named(d, "a").Mesh, charges, 0)
	expect(t, "what the test is about", want, api.ErrLarge)
	refuses(t, d, "prove a 0"+strings.Repeat(" 100", 8), api.ErrLarge)
}

func TestManyProofs(t *testing.T) { // P9.3: at most 16
	d := deskOf(t, 16*128, "octa a 1")
	for i := range 15 {
		accepts(t, d, fmt.Sprintf("prove a 0 %d 1 1 1 1 1 1 1", i))
	}
	refuses(t, d, "prove a 0 1", api.ErrArg)
	accepts(t, d, "even a 0")
	expect(t, "P9.3 proofs", len(named(d, "a").Proofs), 16)
	refuses(t, d, "even a 0", api.ErrBudget)
	accepts(t, d, "day")
	refuses(t, d, "even a 3", api.ErrArg)
	refuses(t, d, "even a 2", api.ErrBudget)
	for _, order := range []string{"even a 0", "improve a 0", "even a 1", "prove a 0 1", "prove a 0 0 0 0 0 0 0 0 0"} {
		refuses(t, d, order, api.ErrLarge)
	}
	expect(t, "P9.6 Audit", d.Audit(), true)
	accepts(t, d, "octa b 1", "even b 0", "turn a", "even a 0")
	expect(t, "P9.3 proofs", len(named(d, "a").Proofs), 1)
}

func TestManyLines(t *testing.T) { // an order is refused where the notebook has MaxLines lines
	d := deskOf(t, 9999, "octa a 1")
	for range api.MaxLines - 2 {
		accepts(t, d, "day")
	}
	refuses(t, d, "octa a 1", api.ErrName)
	accepts(t, d, "even a 0")
	for _, order := range []string{"day", "octa b 1", "octa a 1", "octa 1 0", "turn x", "even a 9", "even a 0", "unite a a", "scale a 0"} {
		refuses(t, d, order, api.ErrLarge)
	}
	for _, order := range []string{"", "days", "octa a", "turn X", "even a 1001"} {
		refuses(t, d, order, api.ErrSyntax)
	}
	expect(t, "P9.4 day", d.Day(), api.MaxLines-2)
	expect(t, "P9.6 Audit", d.Audit(), true)
}
