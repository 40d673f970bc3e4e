package twins_test

import (
	"testing"

	"lender/sums"
	"lender/twins"
)

func TestOfEntry(t *testing.T) {
	x, y := twins.OfEntry([]string{"x", "aa0"}, 1, "cdS", []int{sums.Sum("Ex")})
	if x != "EcdS" || y != "Eaa0" {
		t.Errorf("%q, %q", x, y)
	}
}

// Ahead of a cut and behind it, and with the old log as a whole or as a part.
func TestOfLogs(t *testing.T) {
	y, z := sums.Sum("Ey"), sums.Sum("Ez")
	pair := sums.Node(sums.Sum("Eaa0"), y)
	for _, c := range []struct {
		a, b  []string
		whole bool
		path  []int
	}{
		{[]string{"aa0"}, []string{"cdS"}, true, nil},
		{[]string{"aa0"}, []string{"cdS"}, false, []int{sums.Sum("Eaa0")}},
		{[]string{"aa0"}, []string{"cdS", "y"}, true, []int{y}},
		{[]string{"aa0"}, []string{"cdS", "y"}, false, []int{sums.Sum("Eaa0"), y}},
		{[]string{"aa0", "y", "z"}, []string{"cdS", "y", "z", "y"}, true, []int{z, y, pair}},
		{[]string{"y", "aa0", "aa0"}, []string{"y", "aa0", "cdS", "y"}, true, []int{sums.Sum("Eaa0"), y, sums.Node(y, sums.Sum("Eaa0"))}},
	} {
		if one, other := twins.OfLogs(c.a, c.b, c.whole, c.path); one != "Eaa0" || other != "EcdS" {
			t.Errorf("of %q and %q: %q, %q", c.a, c.b, one, other)
		}
	}
}

// Where nothing is false, or nothing was shown, there are no such texts, but an end.
func TestEnds(t *testing.T) {
	lists := [][]string{nil, {"x"}, {"x", "y"}, {"x", "y", "z"}, make([]string, 9)}
	paths := [][]int{nil, {0}, {-1}, {sums.Sum("Ey")}, make([]int, 9)}
	for _, a := range lists {
		for _, path := range paths {
			for _, i := range []int{-1 << 63, -1, 0, 1, 9, 1<<63 - 1} {
				twins.OfEntry(a, i, "x", path)
			}
			for _, b := range lists {
				twins.OfLogs(a, b, true, path)
				twins.OfLogs(a, b, false, path)
			}
		}
	}
}
