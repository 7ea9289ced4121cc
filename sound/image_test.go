package sound_test

import (
	"fmt"
	"slices"
	"testing"

	"facet/api"
	"facet/sound"
	"facet/span"
)

func TestImages(t *testing.T) { // P8.6
	r := random()
	for range 100 {
		l := above(somePulses(r, r.IntN(9), 1+r.IntN(32)))
		for _, soft := range []bool{false, true} {
			got, e := sound.Images(l, soft)
			if !slices.Equal(got, referenceImages(l, soft)) || e != api.OK {
				t.Error("P8.6 Images:", l, soft, got, e)
			}
		}
	}
	l := []api.Pulse{pulse(tri(pt(1, 2, 3), pt(-4, 5, 0), pt(7, -8, 64)), 11, 12), pulse(flat, 13, -14)}
	for soft, power := range map[bool]int{false: 1, true: -1} {
		want := append(slices.Clone(l), pulse(tri(pt(1, 2, -3), pt(-4, 5, 0), pt(7, -8, -64)), 11, 12*power), pulse(flat, 13, -14*power))
		if got, e := sound.Images(l, soft); !slices.Equal(got, want) || e != api.OK {
			t.Error("P8.6 Images:", soft, got, e)
		}
	}
	for _, none := range [][]api.Pulse{nil, {}} {
		if got, e := sound.Images(none, true); len(got) != 0 || e != api.OK {
			t.Error("P8.6 Images of none:", got, e)
		}
	}
}

// beneath are panels that go below the wall, each with another corner.
func beneath() []api.Panel {
	return []api.Panel{
		tri(pt(0, 0, -1), pt(5, 0, 1), pt(0, 5, 1)),
		tri(pt(0, 0, 1), pt(5, 0, -1), pt(0, 5, 1)),
		tri(pt(0, 0, 1), pt(5, 0, 1), pt(0, 5, -1)),
		tri(pt(0, 0, -64), pt(5, 0, -64), pt(0, 5, -64)),
	}
}

func TestImagesErrors(t *testing.T) { // P8.6
	many := func(n int, last api.Panel) []api.Pulse {
		l := slices.Repeat([]api.Pulse{pulse(high, 0, 1)}, n)
		l[n-1].Panel = last
		return l
	}
	for _, soft := range []bool{false, true} {
		images := func(l []api.Pulse, want api.Errno) {
			t.Helper()
			got, e := sound.Images(l, soft)
			if e != want || want == api.OK && len(got) != 2*len(l) || want != api.OK && len(got) != 0 {
				t.Error("P8.6 Images:", l, soft, got, e, "want", want)
			}
			s, e := sound.Echo(l, pt(0, 0, 1), soft, 1, 1, 0)
			if e != want || want != api.OK && s != sp(0, 0) {
				t.Error("P8.6 Echo:", l, soft, s, e, "want", want)
			}
			// They come before all that is wrong with the way to listen.
			if want != api.OK {
				expect(t, "P8.6 Echo", res(sound.Echo(l, pt(257, 0, -1), soft, 0, -1, 4)), refused(want))
			}
		}
		images(many(8, high), api.OK)
		images(many(9, high), api.ErrLarge)
		images(many(16, high), api.ErrLarge)
		images(many(17, high), api.ErrLarge)
		images(many(9, api.Panel{}), api.ErrFlat)
		images(many(17, api.Panel{}), api.ErrLarge)
		for _, p := range beneath() {
			images(many(1, p), api.ErrArg)
			images(many(8, p), api.ErrArg)
			images(many(9, p), api.ErrArg) // before there are too many
			images(many(17, p), api.ErrLarge)
			images(append(many(1, p), pulse(api.Panel{}, 0, 1)), api.ErrFlat)
		}
	}
}

func TestEcho(t *testing.T) { // P8.6
	errors := map[api.Errno]int{}
	r := random()
	for range 150 {
		size := 1 + r.IntN(10)
		l := above(somePulses(r, r.IntN(9), size))
		x := someEar(r, l, 1+2*size)
		x.Z = max(x.Z, -x.Z)
		speed, depth, soft := 1+r.IntN(6), r.IntN(4), r.IntN(2) == 1
		both := referenceImages(l, soft)
		for tick := range 25 {
			got := res(sound.Echo(l, x, soft, speed, tick, depth))
			expect(t, fmt.Sprint("P8.6 Echo ", l, x, soft, speed, tick, depth), got, res(referenceScene(both, x, speed, tick, depth)))
			errors[got.e]++
			if x.Z == 0 {
				lookAtWall(t, listening{l, x, speed, depth}, tick)
			}
		}
	}
	if errors[api.OK] < 1000 || errors[api.ErrNear] < 50 {
		t.Error("P8.6: too few of a kind", errors)
	}
	for _, none := range [][]api.Pulse{nil, {}} {
		expect(t, "P8.6 Echo of none", res(sound.Echo(none, pt(0, 0, 0), true, 1, 0, 0)), res(sp(0, 0), api.OK))
		expect(t, "P8.6 Echo of none", res(sound.Echo(none, pt(0, 0, -1), true, 1, 0, 0)), refused(api.ErrArg))
	}
}

// lookAtWall listens at the wall: a hard one makes all twice as loud, a soft one
// silent (the consequence of P8.6, and DOC.md, example 9).
func lookAtWall(t *testing.T, c listening, tick int) {
	t.Helper()
	alone, e := sound.Scene(c.l, c.x, c.speed, tick, c.depth)
	hard := res(sound.Echo(c.l, c.x, false, c.speed, tick, c.depth))
	soft := res(sound.Echo(c.l, c.x, true, c.speed, tick, c.depth))
	if e != api.OK {
		expect(t, "P8.6 at the wall", [2]result{hard, soft}, [2]result{refused(e), refused(e)})
		return
	}
	expect(t, "P8.6 at a hard wall", hard, res(must(span.Scale(alone, 2)), api.OK))
	if soft.e != api.OK || soft.s.Lo > 0 || soft.s.Hi < 0 {
		t.Error("P8.6 at a soft wall:", c, tick, soft)
	}
}

func TestAtTheWall(t *testing.T) { // DOC.md, example 9
	const low, top = one / 10, one / 8
	l := []api.Pulse{pulse(high, 5, 7)}
	expect(t, "P8.6 alone", res(sound.Scene(l, pt(0, 0, 0), 10, 6, 0)), res(sp(7*low, 7*top), api.OK))
	expect(t, "P8.6 hard", res(sound.Echo(l, pt(0, 0, 0), false, 10, 6, 0)), res(sp(14*low, 14*top), api.OK))
	expect(t, "P8.6 soft", res(sound.Echo(l, pt(0, 0, 0), true, 10, 6, 0)), res(sp(7*low-7*top, 7*top-7*low), api.OK))
	// Away from the wall the image is heard later: its box is 24 away.
	expect(t, "P8.6 directly", res(sound.Echo(l, pt(0, 0, 16), true, 10, 6, 0)), res(sp(7*low, 7*top), api.OK))
	expect(t, "P8.6 by the wall", res(sound.Echo(l, pt(0, 0, 16), true, 10, 8, 0)), res(sp(-7*(one/24+1), -7*42386), api.OK))
	expect(t, "P8.6 by a hard wall", res(sound.Echo(l, pt(0, 0, 16), false, 10, 8, 0)), res(sp(7*42386, 7*(one/24+1)), api.OK))
	expect(t, "P8.6 behind the wall", res(sound.Echo(l, pt(0, 0, -1), false, 10, 8, 0)), refused(api.ErrArg))
	// Behind the wall and on an image: where x is decides first.
	on := []api.Pulse{pulse(tri(pt(0, 0, 1), pt(8, 0, 1), pt(0, 8, 1)), 0, 1)}
	expect(t, "P8.6 on an image", res(sound.Echo(on, pt(0, 0, -1), false, 1, 1, 0)), refused(api.ErrArg))
	expect(t, "P8.6 on the panel", res(sound.Echo(on, pt(0, 0, 1), false, 1, 1, 0)), refused(api.ErrNear))
	// A panel in the wall is its own image.
	wall := []api.Pulse{pulse(flat, 0, 1)}
	twice := must(sound.Scene([]api.Pulse{wall[0], wall[0]}, pt(0, 0, 5), 3, 3, 2))
	expect(t, "P8.6 in the wall", must(sound.Echo(wall, pt(0, 0, 5), false, 3, 3, 2)), twice)
}
