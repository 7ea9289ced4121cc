package sound_test

import (
	"cmp"
	"fmt"
	"slices"
	"testing"

	"facet/api"
	"facet/sound"
)

func TestValidatePulses(t *testing.T) { // P8.1
	good := pulse(high, 0, 1)
	line := tri(pt(1, 1, 1), pt(2, 2, 2), pt(-3, -3, -3))
	far := tri(pt(65, 0, 0), pt(0, 1, 0), pt(0, 0, 1))
	many := func(p api.Pulse, n int) []api.Pulse { return slices.Repeat([]api.Pulse{p}, n) }
	for _, c := range []struct {
		name string
		l    []api.Pulse
		want api.Errno
	}{
		{"none", nil, api.OK},
		{"empty", []api.Pulse{}, api.OK},
		{"limits", []api.Pulse{pulse(high, 1000, 100), pulse(high, 0, -100), pulse(high, 0, 0)}, api.OK},
		{"as many as may be", many(good, 16), api.OK},
		{"too many", many(good, 17), api.ErrLarge},
		{"too many, flat", many(pulse(line, 0, 1), 17), api.ErrLarge},
		{"too many, late", many(pulse(high, 1001, 1), 17), api.ErrLarge},
		{"flat", many(pulse(line, 0, 1), 1), api.ErrFlat},
		{"no panel", []api.Pulse{{}}, api.ErrFlat},
		{"out of range", many(pulse(far, 0, 1), 1), api.ErrArg},
		{"late", many(pulse(high, 1001, 1), 1), api.ErrArg},
		{"early", many(pulse(high, -1, 1), 1), api.ErrArg},
		{"loud", many(pulse(high, 0, 101), 1), api.ErrArg},
		{"loud, below 0", many(pulse(high, 0, -101), 1), api.ErrArg},
		{"flat before its tick", many(pulse(line, -1, 1), 1), api.ErrFlat},
		{"flat before its power", many(pulse(line, 0, 101), 1), api.ErrFlat},
		{"one by one: a tick, flat", []api.Pulse{good, pulse(high, -1, 1), pulse(line, 0, 1)}, api.ErrArg},
		{"one by one: a power, flat", []api.Pulse{good, pulse(high, 0, 101), pulse(line, 0, 1)}, api.ErrArg},
		{"one by one: flat, a tick", []api.Pulse{good, pulse(line, 0, 1), pulse(high, -1, 1)}, api.ErrFlat},
		{"one by one: out of range, flat", []api.Pulse{pulse(far, 0, 1), pulse(line, 0, 1)}, api.ErrArg},
		{"one by one: flat, out of range", []api.Pulse{pulse(line, 0, 1), pulse(far, 0, 1)}, api.ErrFlat},
		{"the last one", append(many(good, 15), pulse(high, 1001, 1)), api.ErrArg},
	} {
		expect(t, "P8.1 "+c.name, sound.ValidatePulses(c.l), c.want)
	}
}

func TestTravel(t *testing.T) { // P8.2
	for _, c := range []struct {
		a, b        api.Point
		speed, want int
	}{
		{pt(0, 0, 0), pt(3, 4, 0), 2, 3}, // example 1
		{pt(3, 4, 0), pt(0, 0, 0), 2, 3},
		{pt(0, 0, 0), pt(3, 4, 0), 1, 5},
		{pt(0, 0, 0), pt(3, 4, 0), 5, 1},
		{pt(0, 0, 0), pt(3, 4, 0), 4, 2},
		{pt(0, 0, 0), pt(3, 4, 0), 16, 1},
		{pt(0, 0, 0), pt(3, 4, 1), 5, 2},
		{pt(7, -8, 9), pt(7, -8, 9), 1, 0},
		{pt(0, 0, 0), pt(0, 0, 1), 1, 1},
		{pt(-256, -256, -256), pt(256, 256, 256), 1, 887},
		{pt(-256, -256, -256), pt(256, 256, 256), 16, 56},
		{pt(-256, 0, 0), pt(256, 0, 0), 16, 32},
	} {
		n, e := sound.Travel(c.a, c.b, c.speed)
		expect(t, fmt.Sprint("P8.2 Travel ", c), n, c.want)
		expect(t, fmt.Sprint("P8.2 Travel ", c), e, api.OK)
	}
	r := random()
	for range 2000 {
		a, b, speed := somewhere(r, 1+r.IntN(256)), somewhere(r, 1+r.IntN(256)), 1+r.IntN(16)
		n, e := sound.Travel(a, b, speed)
		if want := referenceTicks(referenceSquared(a, b), speed); n != want || e != api.OK {
			t.Error("P8.2 Travel:", a, b, speed, n, e, "want", want)
		}
	}
}

func TestFirstAndLast(t *testing.T) { // P8.2
	for _, c := range []struct {
		p                   api.Panel
		x                   api.Point
		at, speed, from, to int
	}{
		{long, pt(0, 0, 0), 7, 2, 12, 20}, // example 2
		{long, pt(0, 0, 0), 0, 2, 5, 13},  // DOC.md, example 8
		{long, pt(0, 0, 0), 0, 1, 10, 26},
		{long, pt(0, 0, 0), 0, 3, 4, 9},
		{long, pt(0, 0, 0), 1000, 16, 1001, 1002},
		{long, pt(0, 0, 20), 3, 2, 8, 16},
		{long, pt(1, 24, 13), 3, 2, 5, 16}, // near the box, not the panel
		{flat, pt(7, 7, 0), 4, 1, 4, 14},   // in the box: as if on the panel
		{flat, pt(0, 0, 0), 4, 1, 4, 12},
		{flat, pt(9, 8, 0), 0, 1, 1, 13},
		{flat, pt(-1, 4, 0), 0, 1, 1, 10},
		{flat, pt(4, -2, 0), 0, 1, 2, 11},
		{flat, pt(3, 10, 0), 0, 1, 2, 12},
	} {
		p := pulse(c.p, c.at, -9)
		first, e := sound.First(p, c.x, c.speed)
		last, f := sound.Last(p, c.x, c.speed)
		expect(t, fmt.Sprint("P8.2 First ", c), first, c.from)
		expect(t, fmt.Sprint("P8.2 Last ", c), last, c.to)
		expect(t, "P8.2 the error", [2]api.Errno{e, f}, [2]api.Errno{})
	}
	r := random()
	for range 2000 {
		p, x, speed := somePulses(r, 1, 1+r.IntN(64))[0], somewhere(r, 1+r.IntN(256)), 1+r.IntN(16)
		expect(t, fmt.Sprint("P8.2 First ", p, x, speed), must(sound.First(p, x, speed)), referenceFirst(p, x, speed))
		expect(t, fmt.Sprint("P8.2 Last ", p, x, speed), must(sound.Last(p, x, speed)), referenceLast(p, x, speed))
	}
}

func TestTicks(t *testing.T) { // P8.5
	r := random()
	for range 300 {
		l, x, speed := somePulses(r, 1+r.IntN(16), 1+r.IntN(64)), somewhere(r, 1+r.IntN(256)), 1+r.IntN(16)
		var firsts, lasts []int
		for _, p := range l {
			firsts, lasts = append(firsts, referenceFirst(p, x, speed)), append(lasts, referenceLast(p, x, speed))
		}
		first, last, e := sound.Ticks(l, x, speed)
		if first != slices.Min(firsts) || last != slices.Max(lasts) || e != api.OK {
			t.Error("P8.5 Ticks:", l, x, speed, first, last, e)
		}
	}
	for _, none := range [][]api.Pulse{nil, {}} {
		for x, want := range map[api.Point]api.Errno{pt(0, 0, 0): api.ErrNone, pt(0, 257, 0): api.ErrArg} {
			if first, last, e := sound.Ticks(none, x, 1); first != 0 || last != 0 || e != want {
				t.Error("P8.5 Ticks of none:", x, first, last, e)
			}
		}
	}
}

func TestDelay(t *testing.T) { // P8.5
	l := []api.Pulse{pulse(high, 3, 1), pulse(long, 700, -2), pulse(flat, 0, 0)}
	for _, c := range []struct {
		by   int
		want api.Errno
	}{
		{0, api.OK}, {1, api.OK}, {299, api.OK}, {300, api.OK}, {301, api.ErrLarge}, {1000, api.ErrLarge},
		{1001, api.ErrArg}, {-1, api.ErrArg}, {-1 << 63, api.ErrArg}, {1<<63 - 1, api.ErrArg},
	} {
		var want []api.Pulse
		if c.want == api.OK {
			want = []api.Pulse{pulse(high, 3+c.by, 1), pulse(long, 700+c.by, -2), pulse(flat, c.by, 0)}
		}
		got, e := sound.Delay(l, c.by)
		if !slices.Equal(got, want) || e != c.want {
			t.Error("P8.5 Delay:", c, got, e)
		}
	}
	for i := range 3 { // the one that would be too late at any place
		late := slices.Repeat([]api.Pulse{pulse(high, 10, 1)}, 3)
		late[i].At = 991
		got, e := sound.Delay(late, 10)
		if len(got) != 0 || e != api.ErrLarge {
			t.Error("P8.5 Delay too late:", i, got, e)
		}
	}
	for _, by := range []int{0, 1000} {
		if got, e := sound.Delay(nil, by); len(got) != 0 || e != api.OK {
			t.Error("P8.5 Delay of none:", by, got, e)
		}
	}
	if got, e := sound.Delay([]api.Pulse{pulse(high, 0, 1)}, 1000); e != api.OK || got[0].At != 1000 {
		t.Error("P8.5 the greatest Delay:", got, e)
	}
}

func TestOrder(t *testing.T) { // P8.5
	r := random()
	ties := 0
	for range 300 {
		l, x, speed := somePulses(r, r.IntN(17), 1+r.IntN(8)), somewhere(r, 1+r.IntN(30)), 1+r.IntN(16)
		var want []int
		for i := range l {
			want = append(want, i)
		}
		key := func(i int) [2]int { return [2]int{referenceFirst(l[i], x, speed), referenceLast(l[i], x, speed)} }
		slices.SortStableFunc(want, func(i, j int) int { return slices.Compare(keyed(key(i)), keyed(key(j))) })
		for k := 1; k < len(want); k++ {
			if key(want[k]) == key(want[k-1]) {
				ties++
			}
		}
		got, e := sound.Order(l, x, speed)
		if !slices.Equal(got, want) || e != api.OK {
			t.Error("P8.5 Order:", l, x, speed, got, e, "want", want)
		}
	}
	if ties < 50 {
		t.Error("P8.5: too few arrive at the same time", ties)
	}
	// First decides, then Last, then the number.
	l := []api.Pulse{pulse(long, 0, 1), pulse(high, 2, 1), pulse(high, 2, 9), pulse(high, 0, 1), pulse(flat, 9, 1)}
	got, e := sound.Order(l, pt(0, 0, 0), 1)
	if want := []int{3, 4, 1, 2, 0}; !slices.Equal(got, want) || e != api.OK {
		t.Error("P8.5 Order:", got, e, "want", want)
	}
}

func keyed(k [2]int) []int { return k[:] }

func TestOrderIsOfNumbers(t *testing.T) { // P8.5: a power or a panel decides nothing
	l := slices.Repeat([]api.Pulse{pulse(high, 5, 0)}, 16)
	for i := range l {
		l[i].Power = 50 - i
	}
	got, e := sound.Order(l, pt(1, 2, 3), 7)
	if !slices.IsSortedFunc(got, cmp.Compare) || len(got) != 16 || e != api.OK {
		t.Error("P8.5 Order of equal ones:", got, e)
	}
}
