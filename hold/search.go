package hold

import (
	"cmp"
	"math"
	"slices"

	"facet/api"
)

// maxTries bounds the work of a search.
const maxTries = 1000

// firstStep is by how much a search changes charges at first.
const firstStep = 32

// search looks for charges with narrow bounds. Each time it goes on from the best
// charges so far, so its result is never worse than its start.
type search struct {
	b     body
	best  []int
	width int
	tries int // how many are left
}

// stopped is what a search stops with.
type stopped struct{ best []int }

// searchIn begins with even charges. They are as large as their energy allows, so
// that small steps are possible, but leave room above.
func searchIn(b body) *search {
	n := len(b.between)
	ones := even(n, 1)
	s := &search{b, ones, b.width(ones), maxTries}
	for charge := api.MaxCharge / 2; charge > 1; charge-- {
		if s.offer(even(n, charge), s.width) {
			break
		}
	}
	return s
}

// offer takes charges whose bounds are at most that wide, and reports whether it did.
func (s *search) offer(charges []int, atMost int) bool {
	width := s.b.width(charges)
	if width > atMost {
		return false
	}
	s.best, s.width = charges, width
	return true
}

// run tries smaller and smaller steps, each one as long as it makes the bounds
// narrower. It does not return: it stops with a panic.
func (s *search) run() {
	for step := firstStep; step > 0; step /= 2 {
		for s.pass(step) {
		}
	}
	s.stop()
}

func (s *search) stop() {
	panic(stopped{s.best})
}

// pass changes charges in the order of the potentials: those of the faces with the
// lowest ones together, and each one alone. It reports whether something helped.
func (s *search) pass(step int) bool {
	helped := false
	order := s.b.lowestFirst(s.best)
	for k := range order {
		for _, faces := range [2][]int{order[:k+1], order[k : k+1]} {
			if s.try(faces, step) || s.try(faces, -step) {
				helped = true
			}
		}
	}
	return helped
}

// try changes the charges of some faces, and reports whether that helped.
func (s *search) try(faces []int, step int) bool {
	if s.tries == 0 {
		s.stop()
	}
	s.tries--
	charges := slices.Clone(s.best)
	for _, i := range faces {
		charges[i] = min(max(charges[i]+step, 0), api.MaxCharge)
	}
	return s.offer(charges, s.width-1)
}

// width returns how wide the bounds by some charges are. Where there are none, as for
// charges all 0 or too large an energy, they count as wider than any.
func (b body) width(charges []int) int {
	s, e := b.bounds(charges)
	if e != api.OK {
		return math.MaxInt
	}
	return s.Hi - s.Lo
}

// lowestFirst returns the numbers of the faces, in the order of their potentials.
func (b body) lowestFirst(charges []int) []int {
	// There is no error: the charges have bounds.
	potentials, _ := b.between.potentials(charges)
	var order []int
	for i := range potentials {
		order = append(order, i)
	}
	slices.SortStableFunc(order, func(i, j int) int {
		return cmp.Compare(potentials[i].Lo+potentials[i].Hi, potentials[j].Lo+potentials[j].Hi)
	})
	return order
}
