package value_test

import (
	"testing"

	"sextant/value"
)

// round lets x become y, y become z and z become x.
func round(atom string) string {
	switch atom {
	case "x":
		return "y"
	case "y":
		return "z"
	case "z":
		return "x"
	}
	return atom
}

func TestExchange(t *testing.T) {
	for _, row := range [][2]string{
		{"nil", "nil"}, {"true", "true"}, {"-7", "-7"}, {`"x"`, `"x"`}, {"x", "y"}, {"z", "x"}, {"xx", "xx"}, {"left", "left"},
		{"{}", "{}"}, {"{x}", "{y}"}, {"{x, z, 1}", "{1, x, y}"}, {"{x, y, z}", "{x, y, z}"}, {"{{x}, {z}, {y, z}}", "{{x}, {y}, {x, z}}"}, {"{a, z}", "{a, x}"},
		{"<<>>", "<<>>"}, {"<<z, x, z, nil>>", "<<x, y, x, nil>>"}, {"<<{y}, <<z>>>>", "<<{z}, <<x>>>>"},
		{"[x: 1, y: 2, z: 3]", "[x: 3, y: 1, z: 2]"}, {"[x: x, z: {y}]", "[x: {z}, y: y]"}, {"[{x}: x, {z}: 0]", "[{x}: 0, {y}: y]"}, {`["x": x, "k": {"y", y}]`, `["k": {"y", z}, "x": y]`},
		{"[<<x>>: [z: <<{{z}}>>]]", "[<<y>>: [x: <<{{x}}>>]]"},
	} {
		v := read(t, row[0])
		got := v.Exchange(round)
		if got.Show() != row[1] || value.Compare(got, read(t, row[1])) != 0 || got.Weight() != v.Weight() {
			t.Errorf("%s: got %s, want %s", row[0], got.Show(), row[1])
		}
		if v.Show() != read(t, row[0]).Show() {
			t.Errorf("%s became %s", row[0], v.Show())
		}
		if back := got.Exchange(round).Exchange(round); value.Compare(back, v) != 0 {
			t.Errorf("%s: thrice gives %s", row[0], back.Show())
		}
	}
}
