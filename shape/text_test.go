package shape_test

import (
	"fmt"
	"strings"
	"testing"

	"facet/api"
	"facet/shape"
)

const octaText = "point 1 0 0\npoint -1 0 0\npoint 0 1 0\npoint 0 -1 0\npoint 0 0 1\npoint 0 0 -1\n" +
	"face 0 2 4\nface 2 1 4\nface 1 3 4\nface 3 0 4\nface 2 0 5\nface 1 2 5\nface 3 1 5\nface 0 3 5\n"

func TestFormat(t *testing.T) { // P2.9
	expect(t, "P2.9 Format", octaText)(shape.Format(octa(1)))
	expectMesh(t, "P2.9 Parse", octa(1))(shape.Parse(octaText))
	for _, a := range zoo() {
		var b strings.Builder
		for _, p := range a.m.Points {
			fmt.Fprintf(&b, "point %d %d %d\n", p.X, p.Y, p.Z)
		}
		for _, f := range a.m.Faces {
			fmt.Fprintf(&b, "face %d %d %d\n", f[0], f[1], f[2])
		}
		expect(t, "P2.9 Format of "+a.name, b.String())(shape.Format(a.m))
		expectMesh(t, "P2.9 Parse of "+a.name, a.m)(shape.Parse(b.String()))
	}
}

func TestParseRefused(t *testing.T) { // P2.9
	lines := strings.SplitAfter(octaText, "\n")
	swapped := strings.Join(lines[5:7], "")
	for _, x := range [][2]string{ // what is replaced, and by what
		{octaText, ""}, {octaText, "\n"}, {octaText, "octa 1\n"},
		{"face 0 3 5\n", "face 0 3 5"}, {"face 0 3 5\n", "face 0 3 5\n\n"}, {"face 0 3 5\n", "face 0 3 5\nx"}, {"face 0 3 5\n", "face 0 3 5 \n"},
		{"point 1 0 0\n", "\npoint 1 0 0\n"}, {"point 1 0 0\n", " point 1 0 0\n"}, {"point 1 0 0\n", "point  1 0 0\n"}, {"point 1 0 0\n", "point 1 0 0\r\n"},
		{"point 1 0 0\n", "point 01 0 0\n"}, {"point 1 0 0\n", "point +1 0 0\n"}, {"point 1 0 0\n", "point 1 -0 0\n"}, {"point 1 0 0\n", "point 1 00 0\n"},
		{"point 1 0 0\n", "point 1\t0 0\n"}, {"point 1 0 0\n", "point 1 0\n"}, {"point 1 0 0\n", "point 1 0 0 0\n"}, {"point 1 0 0\n", "point 1 0 \n"},
		{"point 1 0 0\n", "Point 1 0 0\n"}, {"point 1 0 0\n", "points 1 0 0\n"}, {"point 1 0 0\n", "1 0 0\n"}, {"point 1 0 0\n", "point 1 0 a\n"},
		{"point 1 0 0\n", "point 1 0 0.0\n"}, {"point 1 0 0\n", "point 0x1 0 0\n"}, {"point 1 0 0\n", "point １ 0 0\n"}, {"point 1 0 0\n", "point 1 0 0\x00\n"},
		{"point 1 0 0\n", "point 1 0 0 point -1 0 0\n"}, {"point 1 0 0\n", "point 18446744073709551617 0 0\n"}, {"point 1 0 0\n", "point 1_0 0 0\n"},
		{"face 0 2 4\n", "face 0 2 04\n"}, {"face 0 2 4\n", "face 0 -2 4\n"}, {"face 0 2 4\n", "edge 0 2 4\n"}, {"face 0 2 4\n", "face 0 2\n"},
		{"face 0 2 4\n", "0 2 4\n"}, {"face 0 2 4\n", "face 0 2 4 4\n"}, {"face 0 2 4\n", "face 0 2 18446744073709551620\n"},
		{swapped, lines[6] + lines[5]}, // a face before a point
		// Texts of meshes that are not valid.
		{"point 1 0 0\n", "point 65 0 0\n"}, {"point 1 0 0\n", "point -1 0 0\n"}, {"face 0 2 4\n", "face 0 2 6\n"}, {"face 0 2 4\n", "face 0 2 2\n"},
		{"face 0 2 4\n", "face 2 0 4\n"}, {"face 0 2 4\n", ""}, {"face 0 2 4\n", "face 0 2 4\nface 0 2 4\n"}, {"face 0 2 4\n", "point 9 9 9\nface 0 2 4\n"},
		{"point 1 0 0\npoint -1 0 0\n", "point -1 0 0\npoint 1 0 0\n"},
		{octaText, "point 1 0 0\npoint 0 1 0\npoint 0 0 1\n"},
	} {
		text := strings.Replace(octaText, x[0], x[1], 1)
		if text == octaText {
			t.Errorf("P2.9: %q is not replaced", x[0])
		}
		refused[api.Mesh](t, fmt.Sprintf("P2.9 Parse %q", text), api.ErrSyntax)(shape.Parse(text))
	}
}

func TestParseLarge(t *testing.T) { // P2.9
	for _, x := range []struct {
		text string
		e    api.Errno
	}{
		{strings.Repeat("x", api.MaxText), api.ErrSyntax},
		{strings.Repeat("x", api.MaxText+1), api.ErrLarge},
		{strings.Repeat("\n", api.MaxText), api.ErrSyntax},
		{octaText + strings.Repeat("\n", api.MaxText-len(octaText)), api.ErrSyntax},
		{octaText + strings.Repeat("\n", api.MaxText+1-len(octaText)), api.ErrLarge},
		{strings.Repeat("point 1 0 0\n", 1000), api.ErrLarge},
		{strings.Repeat("face 1 2 3\n", 100), api.ErrSyntax},
	} {
		refused[api.Mesh](t, "P2.9 Parse", x.e)(shape.Parse(x.text))
	}
}
