package desk_test

import (
	"math/big"
	"math/rand/v2"
	"reflect"
	"regexp"
	"slices"
	"strconv"
	"strings"
	"testing"

	"facet/api"
	"facet/desk"
	"facet/hold"
	"facet/shape"
)

// The tests hold the package against a model of a desk that follows the chapter word
// by word and shares no code with it; what the chapter takes from the lower layers is
// asked of them.

// model is a desk.
type model struct {
	budget, day, left, spent int
	shapes                   []desk.Shape
	orders                   []string
}

func modelOf(budget int) *model { return &model{budget: budget, left: budget} }

// forms are the forms of the orders, with a parenthesis around each name and number,
// and around all further numbers.
var forms = func() map[string]*regexp.Regexp {
	all := map[string]*regexp.Regexp{}
	for _, text := range []string{
		"block NAME N N N", "octa NAME N", "copy NAME NAME", "move NAME N N N", "scale NAME N", "turn NAME",
		"mirror NAME", "finer NAME", "unite NAME NAME", "even NAME N", "prove NAME N( N)+", "improve NAME N", "day",
	} {
		word := strings.Fields(text)[0]
		text = strings.ReplaceAll(text, "( N)+", "((?: (?:0|-?[1-9][0-9]*))+)")
		text = strings.ReplaceAll(text, "NAME", "([a-z0-9]+)")
		text = strings.ReplaceAll(text, "N", "(0|-?[1-9][0-9]*)")
		all[word] = regexp.MustCompile(`\A` + text + `\z`)
	}
	return all
}()

var validName = regexp.MustCompile(`\A[a-z][a-z0-9]{0,7}\z`)

// meaning is what an order says.
type meaning struct {
	word    string
	names   []string
	numbers []int
}

// understood returns what an order says, or false.
func understood(text string) (meaning, bool) {
	word, _, _ := strings.Cut(text, " ")
	form := forms[word]
	if form == nil || len(text) > 100 {
		return meaning{}, false
	}
	found := form.FindStringSubmatch(text)
	if found == nil {
		return meaning{}, false
	}
	said := meaning{word: word}
	names := 1
	switch word {
	case "copy", "unite":
		names = 2
	case "day":
		names = 0
	}
	said.names = found[1 : 1+names]
	for _, digits := range strings.Fields(strings.Join(found[1+names:], " ")) {
		n, err := strconv.Atoi(digits)
		if err != nil || n < -1000 || n > 1000 {
			return meaning{}, false
		}
		said.numbers = append(said.numbers, n)
	}
	return said, true
}

// at returns the place of a shape, or -1.
func (m *model) at(name string) int {
	for i, s := range m.shapes {
		if s.Name == name {
			return i
		}
	}
	return -1
}

// do executes an order.
func (m *model) do(text string) api.Errno {
	said, ok := understood(text)
	if !ok {
		return api.ErrSyntax
	}
	if len(m.orders) >= 100 {
		return api.ErrLarge
	}
	var e api.Errno
	switch said.word {
	case "day":
		m.day, m.left = m.day+1, m.budget
	case "block", "octa", "copy":
		e = m.create(said)
	case "even", "prove", "improve":
		e = m.prove(said)
	default:
		e = m.change(said)
	}
	if e == api.OK {
		m.orders = append(m.orders, text)
	}
	return e
}

func (m *model) create(said meaning) api.Errno { // P9.1
	name := said.names[0]
	if !validName.MatchString(name) || m.at(name) >= 0 {
		return api.ErrName
	}
	if len(m.shapes) >= 8 {
		return api.ErrLarge
	}
	var mesh api.Mesh
	var e api.Errno
	switch said.word {
	case "block":
		mesh, e = shape.Block(said.numbers[0], said.numbers[1], said.numbers[2])
	case "octa":
		mesh, e = shape.Octa(said.numbers[0])
	case "copy":
		if m.at(said.names[1]) < 0 {
			return api.ErrNone
		}
		mesh = m.shapes[m.at(said.names[1])].Mesh
	}
	if e == api.OK {
		m.shapes = append(m.shapes, desk.Shape{Name: name, Mesh: mesh})
	}
	return e
}

func (m *model) change(said meaning) api.Errno { // P9.2
	for _, name := range said.names {
		if m.at(name) < 0 {
			return api.ErrNone
		}
	}
	at := m.at(said.names[0])
	mesh := m.shapes[at].Mesh
	var e api.Errno
	switch said.word {
	case "move":
		mesh, e = shape.Move(mesh, api.Point{X: said.numbers[0], Y: said.numbers[1], Z: said.numbers[2]})
	case "scale":
		mesh, e = shape.Scale(mesh, said.numbers[0])
	case "turn":
		mesh, e = shape.Turn(mesh)
	case "mirror":
		mesh, e = shape.Mirror(mesh)
	case "finer":
		mesh, e = shape.Finer(mesh)
	case "unite":
		if said.names[0] == said.names[1] {
			return api.ErrArg
		}
		mesh, e = shape.Unite(mesh, m.shapes[m.at(said.names[1])].Mesh)
	}
	if e != api.OK {
		return e
	}
	m.shapes[at] = desk.Shape{Name: said.names[0], Mesh: mesh}
	if said.word == "unite" {
		other := m.at(said.names[1])
		m.shapes = append(append([]desk.Shape{}, m.shapes[:other]...), m.shapes[other+1:]...)
	}
	return api.OK
}

func (m *model) prove(said meaning) api.Errno { // P9.3
	at := m.at(said.names[0])
	if at < 0 {
		return api.ErrNone
	}
	depth := said.numbers[0]
	if depth < 0 || depth > 2 {
		return api.ErrArg
	}
	s := m.shapes[at]
	faces := len(s.Mesh.Faces)
	work := faces * faces * []int{1 + 1, 4 + 16, 16 + 256}[depth]
	if said.word == "improve" {
		work = 3 * work
	}
	if work > m.left {
		return api.ErrBudget
	}
	if len(s.Proofs) >= 16 {
		return api.ErrLarge
	}
	charges := said.numbers[1:]
	if said.word == "even" {
		charges = make([]int, faces)
		for i := range charges {
			charges[i] = 1
		}
	}
	if said.word == "improve" {
		var e api.Errno
		if charges, e = hold.Improve(s.Mesh, depth); e != api.OK {
			return e
		}
	}
	c, e := hold.Prove(s.Mesh, charges, depth)
	if e != api.OK {
		return e
	}
	if len(s.Proofs) == 0 {
		s.Span = c.Span
	} else {
		s.Span = api.Span{Lo: max(s.Span.Lo, c.Span.Lo), Hi: min(s.Span.Hi, c.Span.Hi)}
	}
	s.Proofs = append(append([]api.Certificate{}, s.Proofs...), c)
	m.shapes[at] = s
	m.left -= work
	m.spent += work
	return api.OK
}

// sumOf is the sum of a text as one great number, modulo 1000003 at the end.
func sumOf(before int, text string) int {
	n := big.NewInt(int64(before))
	for _, b := range []byte(text) {
		n.Mul(n, big.NewInt(257))
		n.Add(n, big.NewInt(int64(b)+1))
	}
	return int(n.Mod(n, big.NewInt(1000003)).Int64())
}

// bookOf is the notebook of some orders.
func bookOf(orders ...string) string {
	book, sum := "", 0
	for _, order := range orders {
		sum = sumOf(sum, order)
		book += strconv.Itoa(sum) + " " + order + "\n"
	}
	return book
}

var aLine = regexp.MustCompile(`\A([0-9]+) ([ -~]{1,100})\n`)

// readOf returns the orders of a notebook, and the rest.
func readOf(book string) ([]string, string) {
	var orders []string
	for len(orders) < 100 {
		found := aLine.FindStringSubmatch(book)
		if found == nil {
			break
		}
		more := append(slices.Clone(orders), found[2])
		if !strings.HasSuffix(bookOf(more...), "\n"+found[0]) && bookOf(more...) != found[0] {
			break
		}
		orders, book = more, book[len(found[0]):]
	}
	return orders, book
}

// shows reports whether a desk has what the model has.
func (m *model) shows(t *testing.T, what string, d *desk.Desk) bool {
	t.Helper()
	same := sameShapes(d.Shapes(), m.shapes) && d.Day() == m.day && d.Left() == m.left && d.Spent() == m.spent && d.Book() == bookOf(m.orders...)
	if !same {
		t.Errorf("%s: have %v day %d left %d spent %d\n%s\nwant %+v", what, d.Shapes(), d.Day(), d.Left(), d.Spent(), d.Book(), *m)
	}
	return same
}

func sameShapes(a, b []desk.Shape) bool {
	return len(a) == len(b) && (len(a) == 0 || reflect.DeepEqual(plain(a), plain(b)))
}

// plain returns shapes without empty slices.
func plain(l []desk.Shape) []desk.Shape {
	l = slices.Clone(l)
	for i := range l {
		if len(l[i].Proofs) == 0 {
			l[i].Proofs = nil
		}
	}
	return l
}

// names are some that may be a shape's, and some that may not.
var names = strings.Fields("a b c d1 e2e f g abcdefgh i z0 1a abcdefghi 7")

func random() *rand.Rand { return rand.New(rand.NewPCG(1, 2)) }

// one returns one element.
func one[T any](r *rand.Rand, l ...T) T { return l[r.IntN(len(l))] }

// name returns a name, most often of a shape that there is if it is to be old.
func (m *model) name(r *rand.Rand, old bool) string {
	if old && len(m.shapes) > 0 && r.IntN(12) > 0 {
		return one(r, m.shapes...).Name
	}
	return one(r, names...)
}

// randomOrder returns an order, most often one that is accepted.
func (m *model) randomOrder(r *rand.Rand) string {
	n := func(l ...int) string { return strconv.Itoa(one(r, l...)) }
	small := func() string { return n(1, 1, 1, 2, 2, 3, 4, 5, 0, 64, 65, 1000, 1001) }
	step := func() string { return n(0, 0, 1, -1, 2, -3, 9, -12, 20, 128, -129, 1000, -1000, -1001) }
	depth := func() string { return n(0, 0, 0, 0, 0, 0, 0, 1, 1, 2, 3, -1) }
	var words []string
	switch r.IntN(16) {
	case 0:
		words = []string{"block", m.name(r, false), small(), small(), small()}
	case 1, 2:
		words = []string{"octa", m.name(r, false), small()}
	case 3, 4:
		words = []string{"copy", m.name(r, false), m.name(r, true)}
	case 5, 6:
		words = []string{"move", m.name(r, true), step(), step(), step()}
	case 7:
		words = []string{"scale", m.name(r, true), small()}
	case 8:
		words = []string{one(r, "turn", "mirror"), m.name(r, true)}
	case 9:
		words = []string{"finer", m.name(r, true)}
	case 10:
		words = []string{"unite", m.name(r, true), m.name(r, true)}
	case 11:
		words = []string{one(r, "even", "improve"), m.name(r, true), depth()}
	case 12:
		words = []string{"even", m.name(r, true), depth()}
	case 13, 14:
		words = m.randomProof(r, depth())
	case 15:
		words = []string{"day"}
	}
	text := strings.Join(words, " ")
	if r.IntN(15) == 0 {
		text = spoiled(r, text)
	}
	return text
}

// randomProof returns the words of an order with charges, most often as many as there
// must be.
func (m *model) randomProof(r *rand.Rand, depth string) []string {
	name := m.name(r, true)
	count := r.IntN(4) + 1
	if at := m.at(name); at >= 0 && r.IntN(5) > 0 {
		count = len(m.shapes[at].Mesh.Faces)
	}
	words := []string{"prove", name, depth}
	greatest := one(r, 1, 2, 3, 9, 101)
	for range count {
		words = append(words, strconv.Itoa(r.IntN(greatest)))
	}
	return words
}

// spoiled changes, drops or adds a byte.
func spoiled(r *rand.Rand, text string) string {
	at := r.IntN(len(text))
	added := one(r, " ", "-", "0", "a", "A", "\n", "+", "\t", "é", "\xff", "1000", "_")
	switch r.IntN(3) {
	case 0:
		return text[:at] + added + text[at:]
	case 1:
		return text[:at] + text[at+1:]
	}
	return text[:at] + added + text[at+1:]
}
