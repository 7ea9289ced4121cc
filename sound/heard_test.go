package sound_test

import (
	"fmt"
	"testing"

	"facet/api"
	"facet/sound"
)

// Seen from 0 0 0, the box of high is 8 away and its farthest corner 10; that of
// long is 10 away and its farthest corner 26. The box of flat has 0 0 0 in it.
var (
	high = tri(pt(0, 0, 8), pt(0, 6, 8), pt(1, 0, 8))
	long = tri(pt(0, 0, 10), pt(0, 24, 10), pt(1, 0, 10))
	flat = tri(pt(0, 0, 0), pt(8, 0, 0), pt(0, 8, 0))
)

func TestHeardExamples(t *testing.T) { // P8.3
	const eighth, tenth = one / 8, one / 10 // a tenth is rounded down
	for _, c := range []struct {
		p                          api.Panel
		at, power                  int
		speed, tick, depth, lo, hi int
	}{
		// The whole panel in one tick: its far distance is the end of the shell.
		{high, 0, 1, 10, 1, 0, tenth, eighth},
		{high, 7, 1, 10, 8, 0, tenth, eighth},
		{high, 7, 3, 10, 8, 0, 3 * tenth, 3 * eighth},
		{high, 7, -3, 10, 8, 0, -3 * eighth, -3 * tenth},
		{high, 7, 0, 10, 8, 0, 0, 0},
		{high, 1000, 100, 10, 1001, 0, 100 * tenth, 100 * eighth},
		{high, 0, -100, 16, 1, 0, -100 * eighth, -100 * tenth},
		{high, 0, 1, 10, 2, 0, 0, 0}, // the next shell begins where the panel ends
		// Example 3: nothing in the tick of the pulse, nor before.
		{high, 7, 5, 10, 7, 0, 0, 0},
		{high, 7, 5, 10, 6, 0, 0, 0},
		{high, 7, 5, 10, 0, 3, 0, 0},
		{flat, 7, 5, 10, 7, 0, 0, 0},
		{flat, 7, 5, 10, 6, 0, 0, 0},
		// Its near distance is the end of one shell and the beginning of the next.
		{high, 0, 1, 8, 1, 0, 0, eighth},
		{high, 0, 1, 8, 2, 0, 0, eighth},
		{high, 0, -2, 8, 2, 0, -2 * eighth, 0},
		{high, 0, 1, 8, 3, 0, 0, 0},
		{high, 0, 1, 4, 1, 0, 0, 0},
		{high, 0, 1, 4, 2, 0, 0, eighth},
		{high, 0, 1, 4, 3, 0, 0, eighth},
		{high, 0, 1, 4, 4, 0, 0, 0},
		// A shell within the panel: what is heard is not nearer than its beginning.
		{long, 0, 1, 10, 1, 0, 0, tenth + 1},
		{long, 0, 1, 10, 2, 0, 0, tenth + 1},
		{long, 0, 1, 10, 3, 0, 0, one/20 + 1},
		{long, 0, 1, 10, 4, 0, 0, 0},
		{long, 0, 1, 16, 2, 0, 0, one / 16},
		{long, 0, 1, 13, 3, 0, 0, 0},
		{long, 0, 100, 1, 9, 0, 0, 0},
		{long, 0, 100, 1, 10, 0, 0, 100 * (tenth + 1)},
		{long, 0, 100, 1, 26, 0, 0, 100 * (one/25 + 1)},
		{long, 0, 100, 1, 27, 0, 0, 0},
		{long, 0, 100, 16, 2000, 3, 0, 0}, // the last tick of all
		// Cut in four: first three parts are heard as a whole and one partly, which
		// alone is left then.
		{long, 0, 1, 16, 1, 1, 50328, 95393},
		{long, 0, 1, 16, 2, 1, 0, 16384},
		{long, 5, -2, 16, 6, 1, -2 * 95393, -2 * 50328},
		{long, 0, 1, 16, 3, 1, 0, 0},
		// In the box: only in the first tick it is too near.
		{flat, 0, 1, 5, 2, 0, 0, one/5 + 1},
		{flat, 0, 1, 4, 2, 0, 0, one / 4},
		{flat, 0, 1, 4, 3, 0, 0, 0},
	} {
		got := res(sound.Heard(pulse(c.p, c.at, c.power), pt(0, 0, 0), c.speed, c.tick, c.depth))
		expect(t, fmt.Sprint("P8.3 Heard ", c), got, res(sp(c.lo, c.hi), api.OK))
	}
}

func TestHeardNear(t *testing.T) { // P8.3
	for depth := range api.MaxDepth + 1 {
		for x := range 9 { // each point of the panel is in some part of it
			for y := range 9 - x {
				for _, power := range []int{1, 0, -100} {
					p, at := pulse(flat, 3, power), pt(x, y, 0)
					what := fmt.Sprint("P8.3 on the panel ", p, at, depth)
					expect(t, what, res(sound.Heard(p, at, 2, 3, depth)), res(sp(0, 0), api.OK))
					expect(t, what, res(sound.Heard(p, at, 2, 4, depth)), refused(api.ErrNear))
					if s, e := sound.Heard(p, at, 2, 5, depth); e != api.OK || s.Lo > s.Hi {
						t.Error(what, "is near still in the second tick", s, e)
					}
				}
			}
		}
		// In the box, beside the panel: near until the parts are small.
		want := api.OK
		if depth < 2 {
			want = api.ErrNear
		}
		_, e := sound.Heard(pulse(flat, 0, 1), pt(7, 4, 0), 1, 1, depth)
		expect(t, fmt.Sprint("P8.3 beside the panel ", depth), e, want)
	}
}

// eachCase makes many pulses and points, and all ticks in which something is heard
// or which are next to these.
func eachCase(do func(p api.Pulse, x api.Point, speed, tick, depth int)) {
	r := random()
	for _, size := range []int{1, 2, 4, 9, 25, 64} {
		for range 14 {
			p := somePulses(r, 1, size)[0]
			points := []api.Point{p.Panel.A, somewhere(r, size), somewhere(r, 2*size), somewhere(r, 4*size), somewhere(r, 256)}
			for _, x := range points {
				speed, depth := 1+r.IntN(16), r.IntN(4)
				from, to := max(0, referenceFirst(p, x, speed)-2), referenceLast(p, x, speed)+2
				for tick := from; tick <= to; tick += 1 + (to-from)/30 {
					do(p, x, speed, tick, depth)
				}
			}
		}
	}
}

func TestHeard(t *testing.T) { // P8.3
	var seen kinds
	errors := map[api.Errno]int{}
	eachCase(func(p api.Pulse, x api.Point, speed, tick, depth int) {
		what := fmt.Sprint("P8.3 Heard ", p, x, speed, tick, depth)
		got := res(sound.Heard(p, x, speed, tick, depth))
		expect(t, what, got, res(seen.referenceHeard(p, x, speed, tick, depth)))
		errors[got.e]++
		if truth := heardTruth(p, x, speed, tick); got.e == api.OK && !encloses(got.s, truth) {
			t.Error(what, got.s, "does not enclose", truth*one)
		}
	})
	for kind, n := range seen {
		if n < 100 {
			t.Error("P8.3: too few parts of the kind", kind, seen)
		}
	}
	if errors[api.OK] < 1000 || errors[api.ErrNear] < 20 {
		t.Error("P8.3: too few of a kind", errors)
	}
}

func TestHeardInTime(t *testing.T) { // P8.2: nothing before First, nothing after Last
	audible := 0
	eachCase(func(p api.Pulse, x api.Point, speed, tick, depth int) {
		first, last := must(sound.First(p, x, speed)), must(sound.Last(p, x, speed))
		s, e := sound.Heard(p, x, speed, tick, depth)
		if tick >= first && tick <= last {
			audible++
		} else if s != sp(0, 0) || e != api.OK {
			t.Error("P8.2 heard at", tick, "not from", first, "to", last, p, x, speed, depth, s, e)
		}
	})
	if audible < 1000 {
		t.Error("P8.2: too little is heard", audible)
	}
}
