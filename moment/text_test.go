package moment_test

import (
	"fmt"
	"strings"
	"testing"

	"facet/api"
	"facet/moment"
)

func TestTexts(t *testing.T) { // P4.7
	for text, m := range map[string]api.Moments{
		"0 0 0 0 0 0 0 0 0 0 0":      {},
		"2 2 6 6 0 36 18 0 36 0 0":   {Charge: 2, Total: 2, Dipole: pt(6, 6, 0), Second: [6]int{36, 18, 0, 36, 0, 0}},
		"-1 2 3 -4 5 6 7 8 9 10 -11": {Charge: -1, Total: 2, Dipole: pt(3, -4, 5), Second: [6]int{6, 7, 8, 9, 10, -11}},
		"-1048576 1048576 1073741824 -1073741824 0 17179869184 0 0 0 0 -17179869184": {Charge: -mostTotal, Total: mostTotal,
			Dipole: pt(mostDipole, -mostDipole, 0), Second: [6]int{mostSecond, 0, 0, 0, 0, -mostSecond}},
	} {
		expect(t, "P4.7 Format", res(moment.Format(m)), res(text, api.OK))
		expect(t, "P4.7 Parse", res(moment.Parse(text)), res(m, api.OK))
	}
	r := random()
	for range 1000 {
		m := someMoments(r)
		text, e := moment.Format(m)
		want := fmt.Sprint(m.Charge, m.Total, m.Dipole.X, m.Dipole.Y, m.Dipole.Z, m.Second[0], m.Second[1], m.Second[2], m.Second[3], m.Second[4], m.Second[5])
		expect(t, "P4.7 Format", res(text, e), res(want, api.OK))
		expect(t, "P4.7 there and back", res(moment.Parse(text)), res(m, api.OK))
	}
	for _, m := range limits() {
		expect(t, "P4.7 there and back", res(moment.Parse(must(moment.Format(m)))), res(m, api.OK))
	}
}

func TestTextsRefused(t *testing.T) { // P4.7
	l := []string{
		"", " ", "0", "1 1", "0 0 0 0 0 0 0 0 0 0", "0 0 0 0 0 0 0 0 0 0 ", "0 0 0 0 0 0 0 0 0 0 0 0", "0 0 0 0 0 0 0 0 0 0 0 ",
		" 0 0 0 0 0 0 0 0 0 0 0", "0  0 0 0 0 0 0 0 0 0 0", "0 0 0 0 0 0 0 0 0 0\t0", "0 0 0 0 0 0 0 0 0 0 0\n", "0,0,0,0,0,0,0,0,0,0,0",
		strings.Repeat(" ", 10), strings.Repeat("0", 11), strings.Repeat("0 ", 1000), strings.Repeat(" ", 100000),
	}
	// A wrong number in each place.
	for _, wrong := range []string{"", "00", "01", "-0", "+1", "+0", "--1", "-", "1-", "x", "1_0", "0x1", "1.0", "1e1", "１", "\x00", "1\r", "99999999999999999999", "-9223372036854775809", "18446744073709551616"} {
		for i := range 11 {
			words := strings.Fields("1 2 0 0 0 0 0 0 0 0 0")
			words[i] = wrong
			l = append(l, strings.Join(words, " "))
		}
	}
	// Numbers that are not valid together.
	for _, m := range invalid() {
		l = append(l, strings.Trim(fmt.Sprint(m.Charge, m.Total, m.Dipole.X, m.Dipole.Y, m.Dipole.Z, m.Second[0], m.Second[1], m.Second[2], m.Second[3], m.Second[4], m.Second[5]), "[]"))
	}
	for _, text := range l {
		expect(t, fmt.Sprintf("P4.7 Parse %.60q", text), res(moment.Parse(text)), refused[api.Moments](api.ErrSyntax))
	}
}
