package sound_test

import (
	"fmt"
	"math"
	"reflect"
	"slices"
	"testing"

	"facet/api"
	"facet/shape"
	"facet/sound"
)

// asked are the arguments of a function, as far as it has them.
type asked struct {
	l                  []api.Pulse
	x                  api.Point
	speed, tick, depth int
}

// asker calls a function, and says which of the arguments it has.
type asker struct {
	name                                  string
	alone                                 bool // it has one pulse, and not some
	hasPoint, hasSpeed, hasTick, hasDepth bool
	call                                  func(a asked) []any
}

func values(l ...any) []any { return l }

func askers() []asker {
	return []asker{
		{"ValidatePulses", false, false, false, false, false, func(a asked) []any { return values(sound.ValidatePulses(a.l)) }},
		{"First", true, true, true, false, false, func(a asked) []any { n, e := sound.First(a.l[0], a.x, a.speed); return values(n, e) }},
		{"Last", true, true, true, false, false, func(a asked) []any { n, e := sound.Last(a.l[0], a.x, a.speed); return values(n, e) }},
		{"Heard", true, true, true, true, true, func(a asked) []any {
			s, e := sound.Heard(a.l[0], a.x, a.speed, a.tick, a.depth)
			return values(s, e)
		}},
		{"Scene", false, true, true, true, true, func(a asked) []any {
			s, e := sound.Scene(a.l, a.x, a.speed, a.tick, a.depth)
			return values(s, e)
		}},
		{"Total", false, true, false, false, true, func(a asked) []any { s, e := sound.Total(a.l, a.x, a.depth); return values(s, e) }},
		{"Ticks", false, true, true, false, false, func(a asked) []any { m, n, e := sound.Ticks(a.l, a.x, a.speed); return values(m, n, e) }},
		{"Delay", false, false, false, false, false, func(a asked) []any { l, e := sound.Delay(a.l, 7); return values(l, e) }},
		{"Images", false, false, false, false, false, func(a asked) []any { l, e := sound.Images(a.l, true); return values(l, e) }},
		{"Echo", false, true, true, true, true, func(a asked) []any {
			s, e := sound.Echo(a.l, a.x, false, a.speed, a.tick, a.depth)
			return values(s, e)
		}},
		{"Trace", false, true, true, true, true, func(a asked) []any {
			l, e := sound.Trace(a.l, a.x, a.speed, a.tick, a.tick, a.depth)
			return values(l, e)
		}},
		{"Order", false, true, true, false, false, func(a asked) []any { l, e := sound.Order(a.l, a.x, a.speed); return values(l, e) }},
	}
}

// rightAndWrong are lists of pulses; those that are right have 1 at most.
func rightAndWrong() [][]api.Pulse {
	wrong := tri(pt(65, 0, 0), pt(0, 1, 0), pt(0, 0, 1))
	worse := tri(pt(math.MinInt, 0, 0), pt(math.MaxInt, 1, 0), pt(0, 0, math.MinInt))
	return [][]api.Pulse{
		{pulse(flat, 3, 5)},
		{pulse(flat, 0, -100)},
		{},
		{pulse(api.Panel{}, 0, 0)},
		{pulse(wrong, 0, 1)},
		{pulse(worse, 0, 1)},
		{pulse(flat, -1, 5)},
		{pulse(flat, 1001, 5)},
		{pulse(flat, math.MaxInt, 5)},
		{pulse(flat, math.MinInt, 5)},
		{pulse(flat, 3, 101)},
		{pulse(flat, 3, -101)},
		{pulse(flat, 3, math.MaxInt)},
		{pulse(flat, 3, math.MinInt)},
		{pulse(api.Panel{}, -1, 101)},
		{pulse(flat, 3, 5), pulse(flat, 3, 101), pulse(api.Panel{}, 0, 0)},
		slices.Repeat([]api.Pulse{pulse(flat, 3, 5)}, 17),
	}
}

func referenceValidate(l []api.Pulse) api.Errno {
	if len(l) > 16 {
		return api.ErrLarge
	}
	for _, p := range l {
		if e := shape.ValidatePanel(p.Panel); e != api.OK {
			return e
		}
		if p.At < 0 || p.At > 1000 || p.Power < -100 || p.Power > 100 {
			return api.ErrArg
		}
	}
	return api.OK
}

// wantedError is the error that comes first.
func (a asked) wantedError(f asker) api.Errno {
	if e := referenceValidate(a.l); e != api.OK {
		return e
	}
	beyond := func(n, from, to int) bool { return n < from || n > to }
	for _, n := range axes(a.x) {
		if f.hasPoint && beyond(n, -256, 256) {
			return api.ErrArg
		}
	}
	if f.hasSpeed && beyond(a.speed, 1, 16) || f.hasTick && beyond(a.tick, 0, 2000) || f.hasDepth && beyond(a.depth, 0, 3) {
		return api.ErrArg
	}
	if len(a.l) == 0 && f.name == "Ticks" {
		return api.ErrNone
	}
	if len(a.l) > 0 && f.hasDepth && a.x == flat.A && (f.name == "Total" || a.tick == a.l[0].At+1) {
		return api.ErrNear
	}
	return api.OK
}

func TestRefusals(t *testing.T) { // P8.1, R1, R2, R3, R6: all functions with pulses, with errors at once
	points := []api.Point{flat.A, pt(9, 9, 9), pt(256, -256, 256)}
	for _, n := range []int{257, -257, math.MaxInt, math.MinInt} {
		points = append(points, pt(n, 0, 0), pt(0, n, 0), pt(0, 0, n))
	}
	seen := map[api.Errno]int{}
	for _, f := range askers() {
		for _, l := range rightAndWrong() {
			if f.alone && len(l) != 1 {
				continue
			}
			for _, x := range points {
				for _, speed := range []int{1, 16, 0, 17, -1, math.MaxInt, math.MinInt} {
					for _, tick := range []int{4, 2000, 0, -1, 2001, math.MaxInt, math.MinInt} {
						for _, depth := range []int{0, 3, -1, 4, math.MaxInt, math.MinInt} {
							a := asked{l, x, speed, tick, depth}
							want := a.wantedError(f)
							seen[want]++
							checkRefusal(t, f, a, want)
						}
					}
				}
			}
		}
	}
	for _, e := range []api.Errno{api.OK, api.ErrArg, api.ErrLarge, api.ErrNone, api.ErrFlat, api.ErrNear} {
		if seen[e] < 20 {
			t.Error("P8.1: too few of the error", e, seen)
		}
	}
}

// checkRefusal expects an error, and with it zero values.
func checkRefusal(t *testing.T, f asker, a asked, want api.Errno) {
	t.Helper()
	got := f.call(a)
	last := len(got) - 1
	if got[last] != want {
		t.Errorf("%s %v: the error %v, want %v", f.name, a, got[last], want)
	}
	for _, v := range got[:last] {
		r := reflect.ValueOf(v)
		zero := r.IsZero() || r.Kind() == reflect.Slice && r.Len() == 0
		if want != api.OK && !zero {
			t.Errorf("%s %v: with the error %v: %v", f.name, a, want, v)
		}
	}
}

func TestTravelRefusals(t *testing.T) { // P8.1
	points := []api.Point{pt(1, 2, 3), pt(256, -256, 256)}
	for _, n := range []int{257, -257, math.MaxInt, math.MinInt} {
		points = append(points, pt(n, 0, 0), pt(0, n, 0), pt(0, 0, n))
	}
	for i, a := range points {
		for j, b := range points {
			for _, speed := range []int{1, 16, 0, 17, -1, math.MaxInt, math.MinInt} {
				wrong := i > 1 || j > 1 || speed < 1 || speed > 16
				n, e := sound.Travel(a, b, speed)
				if wrong && (n != 0 || e != api.ErrArg) || !wrong && e != api.OK {
					t.Error("P8.1 Travel:", a, b, speed, n, e)
				}
			}
		}
	}
}

func TestMemory(t *testing.T) { // R5, R11
	l := append(somePulses(random(), 3, 9), pulse(flat, 3, 5))
	l = above(l)
	before := slices.Clone(l)
	for _, f := range askers() {
		a := asked{l, pt(20, 20, 20), 2, 9, 3}
		first := fmt.Sprint(f.call(a))
		for _, v := range f.call(a) { // whoever gets a result may change it
			if r := reflect.ValueOf(v); r.Kind() == reflect.Slice && r.Cap() > 0 {
				reflect.Copy(r.Slice(0, r.Cap()), reflect.MakeSlice(r.Type(), r.Cap(), r.Cap()))
			}
		}
		expect(t, "R11 "+f.name, fmt.Sprint(f.call(a)), first)
		if !slices.Equal(l, before) {
			t.Error("R5 an argument was changed by", f.name)
		}
	}
	// There is room behind the pulses, which belongs to others.
	room := append(make([]api.Pulse, 0, 16), l...)
	must(sound.Images(room, false))
	must(sound.Delay(room, 1))
	if !slices.Equal(room, before) || room[:5][4] != (api.Pulse{}) {
		t.Error("R5 an argument was changed")
	}
	for _, by := range []int{0, 1} {
		later := must(sound.Delay(l, by))
		later[0].Power = 99
		if !slices.Equal(l, before) {
			t.Error("R5 Delay shares memory with its argument", by)
		}
	}
}
