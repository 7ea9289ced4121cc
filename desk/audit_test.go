package desk

import (
	"slices"
	"testing"

	"facet/api"
	"facet/hold"
)

// What Audit finds wrong does not come about by orders, so these tests reach into a desk.

// auditedDesk is one that has what an audit looks at.
func auditedDesk(t *testing.T) *Desk {
	t.Helper()
	d, _ := New(4000)
	for _, order := range []string{"octa a 1", "block b 1 1 1", "even a 0", "prove a 0 1 1 1 1 2 2 2 2", "day", "even b 0", "even b 1", "block c 1 2 3"} {
		if e := d.Do(order); e != api.OK {
			t.Fatal(order, e)
		}
	}
	return d
}

// widest is a certificate that holds for an octahedron, and that nobody has ordered.
func widest() api.Certificate {
	return api.Certificate{Charges: slices.Repeat([]int{1}, 8), Span: api.Span{Hi: api.MaxFix}}
}

// faults are what must not be, by what is wrong.
func faults() map[string]func(s *state) {
	return map[string]func(s *state){
		"day":                  func(s *state) { s.day++ },
		"left":                 func(s *state) { s.left-- },
		"spent":                func(s *state) { s.spent++ },
		"budget":               func(s *state) { s.budget++ },
		"small budget":         func(s *state) { s.budget = 100 },
		"no budget":            func(s *state) { s.budget = -1 },
		"name":                 func(s *state) { s.shapes[2].Name = "d" },
		"order of shapes":      func(s *state) { s.shapes[0], s.shapes[1] = s.shapes[1], s.shapes[0] },
		"a shape less":         func(s *state) { s.shapes = s.shapes[:2] },
		"a shape more":         func(s *state) { s.shapes = append(s.shapes, Shape{Name: "d", Mesh: s.shapes[2].Mesh}) },
		"points":               func(s *state) { s.shapes[2].Mesh.Points[7].X = 2 },
		"faces":                func(s *state) { s.shapes[2].Mesh.Faces[0] = [3]int{2, 3, 0} },
		"lower bound":          func(s *state) { s.shapes[0].Span.Lo++ },
		"upper bound":          func(s *state) { s.shapes[0].Span.Hi-- },
		"span without a proof": func(s *state) { s.shapes[2].Span = api.Span{Hi: 1} },
		"span of one proof":    func(s *state) { s.shapes[1].Span = s.shapes[1].Proofs[0].Span },
		"no proofs":            func(s *state) { s.shapes[0].Proofs = nil },
		"proofs of nothing":    func(s *state) { s.shapes[0].Proofs, s.shapes[0].Span = nil, api.Span{} },
		"a proof more":         func(s *state) { s.shapes[0].Proofs = append(s.shapes[0].Proofs, widest()) },
		"other charges": func(s *state) {
			p := s.shapes[0].Proofs
			p[0].Charges = slices.Repeat([]int{2}, 8)
			p[0].Span, _ = hold.Bounds(s.shapes[0].Mesh, p[0].Charges, 0)
			s.shapes[0].Span = enclosed(p)
		},
		"another depth": func(s *state) {
			p := s.shapes[1].Proofs
			p[0].Depth = 1
			p[0].Span, s.shapes[1].Span = p[1].Span, p[1].Span
		},
		"a depth that proves more": func(s *state) { s.shapes[0].Proofs[0].Depth = 2 },
		"a wider proof": func(s *state) {
			s.shapes[0].Proofs[0].Span.Hi++
			s.shapes[0].Span = enclosed(s.shapes[0].Proofs)
		},
		"a proof that proves too much": func(s *state) {
			s.shapes[0].Proofs[0].Span.Lo++
			s.shapes[0].Span = enclosed(s.shapes[0].Proofs)
		},
		"malformed charges": func(s *state) { s.shapes[0].Proofs[1].Charges = nil },
		"an order more":     func(s *state) { s.orders = append(s.orders, "day") },
		"an order less":     func(s *state) { s.orders = s.orders[:7] },
		"another order":     func(s *state) { s.orders[1] = "block b 1 1 2" },
		"a refused order":   func(s *state) { s.orders[4] = "octa a 1" },
		"no order":          func(s *state) { s.orders[4] = "days" },
		"a torn order":      func(s *state) { s.orders[4] = "day\nday" },
		"no orders":         func(s *state) { s.orders = nil },
		"too many orders": func(s *state) {
			s.orders = append(s.orders, slices.Repeat([]string{"turn c"}, api.MaxLines)...)
		},
	}
}

func TestAuditFindsFaults(t *testing.T) { // P9.6: an audit is false where something does not follow
	if !auditedDesk(t).Audit() {
		t.Fatal("P9.6 Audit is false without a fault")
	}
	for what, spoil := range faults() {
		d := auditedDesk(t)
		spoil(&d.now)
		if d.Audit() {
			t.Error("P9.6 Audit does not find the fault:", what)
		}
	}
}

func TestAuditOfNothing(t *testing.T) { // P9.6: a desk that has nothing but a notebook that makes no desk
	for _, orders := range [][]string{{"bad"}, {""}, {"turn a"}} {
		d := Desk{now: state{orders: orders}}
		if d.Audit() {
			t.Errorf("P9.6 Audit with the orders %q", orders)
		}
	}
}

func TestAuditOfProofsAlone(t *testing.T) { // P9.6: a proof counts by the judge, whatever the notebook says
	d := auditedDesk(t)
	s := d.now.shapes[0]
	if !isProved(s) {
		t.Error("P9.6 proofs that hold")
	}
	s.Proofs = []api.Certificate{widest()}
	s.Span = widest().Span
	if !isProved(s) {
		t.Error("P9.6 a proof that holds, but says little")
	}
	s.Span.Lo++
	if isProved(s) {
		t.Error("P9.6 a span that is not that of the proofs")
	}
	s.Proofs[0].Span.Hi = 1
	s.Span = s.Proofs[0].Span
	if isProved(s) {
		t.Error("P9.6 a proof that does not hold")
	}
}
