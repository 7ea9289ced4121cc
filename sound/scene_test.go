package sound_test

import (
	"fmt"
	"slices"
	"testing"

	"facet/api"
	"facet/shape"
	"facet/sound"
	"facet/span"
)

// listening is some pulses and a way to listen to them.
type listening struct {
	l            []api.Pulse
	x            api.Point
	speed, depth int
}

// eachScene makes up many scenes, of which some have no pulses.
func eachScene(n int, do func(c listening)) {
	r := random()
	for range n {
		size := 1 + r.IntN(12)
		l := somePulses(r, r.IntN(6), size)
		for range 5 {
			do(listening{l, someEar(r, l, 1+2*size), 1 + r.IntN(6), r.IntN(4)})
		}
	}
}

func TestScene(t *testing.T) { // P8.4
	errors := map[api.Errno]int{}
	eachScene(60, func(c listening) {
		for tick := range 40 {
			what := fmt.Sprint("P8.4 Scene ", c, tick)
			got := res(sound.Scene(c.l, c.x, c.speed, tick, c.depth))
			expect(t, what, got, res(referenceScene(c.l, c.x, c.speed, tick, c.depth)))
			errors[got.e]++
			truth := 0.0
			for _, p := range c.l {
				truth += heardTruth(p, c.x, c.speed, tick)
			}
			if got.e == api.OK && !encloses(got.s, truth) {
				t.Error(what, got.s, "does not enclose", truth*one)
			}
		}
	})
	if errors[api.OK] < 1000 || errors[api.ErrNear] < 50 {
		t.Error("P8.4: too few of a kind", errors)
	}
}

func TestSceneExamples(t *testing.T) { // P8.4
	x := pt(0, 0, 0)
	scene := func(l []api.Pulse, tick int) result { return res(sound.Scene(l, x, 10, tick, 0)) }
	expect(t, "P8.4 none", scene(nil, 3), res(sp(0, 0), api.OK))
	expect(t, "P8.4 none", scene([]api.Pulse{}, 2000), res(sp(0, 0), api.OK))
	const low, top = one / 10, one / 8
	two := []api.Pulse{pulse(high, 4, 3), pulse(high, 4, -2)}
	expect(t, "P8.4 powers against each other", scene(two, 5), res(sp(3*low-2*top, 3*top-2*low), api.OK))
	late := []api.Pulse{pulse(high, 4, 3), pulse(high, 5, 2)}
	expect(t, "P8.4 the first one", scene(late, 5), res(sp(3*low, 3*top), api.OK))
	expect(t, "P8.4 the second one", scene(late, 6), res(sp(2*low, 2*top), api.OK))
	expect(t, "P8.4 after both", scene(late, 7), res(sp(0, 0), api.OK))
	full := slices.Repeat([]api.Pulse{pulse(high, 4, 100)}, 16)
	expect(t, "P8.4 as much as may be", scene(full, 5), res(sp(1600*low, 1600*top), api.OK))
	for i := range 16 { // one pulse that is near decides, at any place
		one := slices.Clone(full)
		one[i] = pulse(flat, 4, 0)
		expect(t, "P8.4 near", scene(one, 5), refused(api.ErrNear))
		if got := scene(one, 6); got.e != api.OK {
			t.Error("P8.4 not near", got)
		}
	}
}

func TestTotal(t *testing.T) { // P8.4
	errors := map[api.Errno]int{}
	eachScene(200, func(c listening) {
		what := fmt.Sprint("P8.4 Total ", c)
		got := res(sound.Total(c.l, c.x, c.depth))
		expect(t, what, got, res(referenceTotal(c.l, c.x, c.depth)))
		errors[got.e]++
		truth := 0.0
		for _, p := range c.l {
			truth += totalTruth(p, c.x)
		}
		if got.e == api.OK && !encloses(got.s, truth) {
			t.Error(what, got.s, "does not enclose", truth*one)
		}
	})
	if errors[api.OK] < 300 || errors[api.ErrNear] < 100 {
		t.Error("P8.4: too few of a kind", errors)
	}
	expect(t, "P8.4 Total of none", res(sound.Total(nil, pt(0, 0, 0), 3)), res(sp(0, 0), api.OK))
	expect(t, "P8.4 Total", res(sound.Total([]api.Pulse{pulse(high, 9, -4)}, pt(0, 0, 0), 0)), res(sp(-one/2, -4*(one/10)), api.OK))
	full := slices.Repeat([]api.Pulse{pulse(high, 1000, 100)}, 16)
	expect(t, "P8.4 Total of all", res(sound.Total(full, pt(0, 0, 0), 0)), res(sp(1600*(one/10), 1600*(one/8)), api.OK))
	near := []api.Pulse{pulse(high, 0, 1), pulse(flat, 0, 0)}
	expect(t, "P8.4 Total near", res(sound.Total(near, pt(0, 0, 0), 3)), refused(api.ErrNear))
}

// add is the sum of two spans.
func add(a, b api.Span) api.Span { return must(span.Add(a, b)) }

func TestAllTicksMeetTotal(t *testing.T) { // S7, the consequence of P8.4
	met := 0
	eachScene(150, func(c listening) {
		total, e := sound.Total(c.l, c.x, c.depth)
		if e != api.OK || len(c.l) == 0 {
			return
		}
		first, last, e := sound.Ticks(c.l, c.x, c.speed)
		expect(t, "P8.5 Ticks", e, api.OK)
		var sum api.Span
		for tick := range last + 30 {
			s, e := sound.Scene(c.l, c.x, c.speed, tick, c.depth)
			expect(t, fmt.Sprint("S7 Scene where Total is ", total), e, api.OK)
			if (tick < first || tick > last) && s != sp(0, 0) {
				t.Error("S7 something is heard at", tick, "not from", first, "to", last, c, s)
			}
			sum = add(sum, s)
		}
		met++
		if _, ok, e := span.Meet(sum, total); !ok || e != api.OK {
			t.Error("S7:", sum, "does not meet", total, c)
		}
	})
	if met < 200 {
		t.Error("S7: too few sums", met)
	}
}

func TestOneTickIsTotal(t *testing.T) { // S7: a surface that is heard at once
	l := []api.Pulse{}
	for _, p := range must(shape.Panels(must(shape.Octa(5)))) {
		l = append(l, pulse(p, 30, 8))
	}
	for depth := range api.MaxDepth + 1 {
		x := pt(9, 1, 2) // all corners are within 15, none within 0
		got := must(sound.Scene(l, x, 15, 31, depth))
		want := must(sound.Total(l, x, depth))
		expect(t, "S7 at once", got, want)
	}
}

func TestTrace(t *testing.T) { // P8.7
	errors := map[api.Errno]int{}
	eachScene(40, func(c listening) {
		for _, ticks := range [][2]int{{0, 25}, {3, 3}, {7, 19}, {1, 4}} {
			want, failed := []api.Span{}, api.OK
			for tick := ticks[0]; tick <= ticks[1] && failed == api.OK; tick++ {
				s, e := referenceScene(c.l, c.x, c.speed, tick, c.depth)
				want, failed = append(want, s), e
			}
			if failed != api.OK {
				want = nil
			}
			got, e := sound.Trace(c.l, c.x, c.speed, ticks[0], ticks[1], c.depth)
			errors[e]++
			if !slices.Equal(got, want) || e != failed {
				t.Error("P8.7 Trace:", c, ticks, got, e, "want", want, failed)
			}
		}
	})
	if errors[api.OK] < 200 || errors[api.ErrNear] < 50 {
		t.Error("P8.7: too few of a kind", errors)
	}
}

func TestTraceTicks(t *testing.T) { // P8.7
	on := []api.Pulse{pulse(flat, 50, 1)} // from 0 0 0 it is near at the tick 51 only
	for _, c := range []struct {
		from, to int
		want     api.Errno
	}{
		{0, 0, api.OK},
		{0, 50, api.OK},
		{0, 51, api.ErrNear},
		{51, 51, api.ErrNear},
		{51, 251, api.ErrNear},
		{50, 251, api.ErrArg}, // too long, which is found before what is near
		{52, 51, api.ErrArg},
		{52, 52, api.OK},
		{52, 252, api.OK},
		{52, 253, api.ErrArg},
		{1800, 2000, api.OK},
		{1799, 2000, api.ErrArg},
		{1800, 2001, api.ErrArg},
		{1900, 2001, api.ErrArg},
		{2000, 2001, api.ErrArg},
		{2000, 2000, api.OK},
		{2000, 1999, api.ErrArg},
		{2001, 2001, api.ErrArg},
		{-1, 0, api.ErrArg},
		{-1, -1, api.ErrArg},
		{0, -1, api.ErrArg},
		{0, 2000, api.ErrArg},
		{-1 << 63, 1<<63 - 1, api.ErrArg}, // their difference is -1 in an int
		{1<<63 - 1, -1 << 63, api.ErrArg},
	} {
		l, e := sound.Trace(on, pt(0, 0, 0), 16, c.from, c.to, 1)
		length := 0
		if c.want == api.OK {
			length = c.to - c.from + 1
		}
		if e != c.want || len(l) != length {
			t.Error("P8.7 Trace:", c, len(l), e)
		}
	}
	for _, none := range [][]api.Pulse{nil, {}} {
		l, e := sound.Trace(none, pt(0, 0, 0), 1, 5, 7, 0)
		if !slices.Equal(l, make([]api.Span, 3)) || e != api.OK {
			t.Error("P8.7 Trace of none:", l, e)
		}
	}
}

func TestTracesAddUp(t *testing.T) { // the consequence of P8.7
	r := random()
	whole, compared := 0, 0
	eachScene(60, func(c listening) {
		more := somePulses(r, 1+r.IntN(5), 9)
		by := r.IntN(60)
		trace := func(l []api.Pulse, from int) ([]api.Span, api.Errno) {
			return sound.Trace(l, c.x, c.speed, from, from+40, c.depth)
		}
		a, e := trace(c.l, 0)
		b, f := trace(more, 0)
		both, g := trace(slices.Concat(c.l, more), 0)
		if e != api.OK {
			return
		}
		later, e := trace(must(sound.Delay(c.l, by)), by)
		compared++
		if !slices.Equal(later, a) || e != api.OK {
			t.Error("P8.7 a Delay does not move the Trace:", c, by, later, a, e)
		}
		if f != api.OK {
			return
		}
		expect(t, "P8.7 Trace of both", g, api.OK)
		whole++
		for tick := range both {
			expect(t, fmt.Sprint("P8.7 Trace of both ", c, tick), both[tick], add(a[tick], b[tick]))
		}
	})
	if compared < 50 || whole < 50 {
		t.Error("P8.7: too few traces", compared, whole)
	}
}
