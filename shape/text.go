package shape

import (
	"strconv"
	"strings"

	"facet/api"
)

// Format writes a line for each point and then for each face (P2.9).
func Format(m api.Mesh) (string, api.Errno) {
	if e := Validate(m); e != api.OK {
		return "", e
	}
	var b strings.Builder
	for _, p := range m.Points {
		b.WriteString(line("point", [3]int{p.X, p.Y, p.Z}))
	}
	for _, f := range m.Faces {
		b.WriteString(line("face", f))
	}
	return b.String(), api.OK
}

// Parse returns the valid mesh whose Format is text (P2.9).
func Parse(text string) (api.Mesh, api.Errno) {
	if len(text) > api.MaxText {
		return api.Mesh{}, api.ErrLarge
	}
	var m api.Mesh
	for l := range strings.Lines(text) {
		kind, n := readLine(l)
		if kind == "point" {
			m.Points = append(m.Points, api.Point{X: n[0], Y: n[1], Z: n[2]})
		} else {
			m.Faces = append(m.Faces, n)
		}
	}
	// Whatever was read of the lines: the text has to be what Format writes.
	if written, e := Format(m); e != api.OK || written != text {
		return api.Mesh{}, api.ErrSyntax
	}
	return m, api.OK
}

func line(kind string, n [3]int) string {
	words := []string{kind}
	for _, x := range n {
		words = append(words, strconv.Itoa(x))
	}
	return strings.Join(words, " ") + "\n"
}

// readLine returns the word and the numbers of a line that Format wrote, and
// any word and numbers for another line.
func readLine(l string) (kind string, n [3]int) {
	words := strings.Fields(l)
	if len(words) != 1+len(n) {
		return "", n
	}
	for i := range n {
		n[i], _ = strconv.Atoi(words[1+i])
	}
	return words[0], n
}
