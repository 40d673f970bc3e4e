package twins_test

import (
	"testing"

	"lender/accounts"
	"lender/api"
	"lender/sums"
	"lender/twins"
)

func TestOfEntry(t *testing.T) {
	x, y := twins.OfEntry([]string{"x", "aa0"}, 1, "cdS", []int{sums.Sum("Ex")})
	if x != "EcdS" || y != "Eaa0" {
		t.Errorf("%q, %q", x, y)
	}
}

// Ahead of a cut and behind it, and with the old log as a whole or as a part.
func TestOfLogs(t *testing.T) {
	y, z := sums.Sum("Ey"), sums.Sum("Ez")
	pair := sums.Node(sums.Sum("Eaa0"), y)
	for _, c := range []struct {
		a, b  []string
		whole bool
		path  []int
	}{
		{[]string{"aa0"}, []string{"cdS"}, true, nil},
		{[]string{"aa0"}, []string{"cdS"}, false, []int{sums.Sum("Eaa0")}},
		{[]string{"aa0"}, []string{"cdS", "y"}, true, []int{y}},
		{[]string{"aa0"}, []string{"cdS", "y"}, false, []int{sums.Sum("Eaa0"), y}},
		{[]string{"aa0", "y", "z"}, []string{"cdS", "y", "z", "y"}, true, []int{z, y, pair}},
		{[]string{"y", "aa0", "aa0"}, []string{"y", "aa0", "cdS", "y"}, true, []int{sums.Sum("Eaa0"), y, sums.Node(y, sums.Sum("Eaa0"))}},
	} {
		if one, other := twins.OfLogs(c.a, c.b, c.whole, c.path); one != "Eaa0" || other != "EcdS" {
			t.Errorf("of %q and %q: %q, %q", c.a, c.b, one, other)
		}
	}
}

// Where nothing is false, or nothing was shown, there are no such texts, but an end.
func TestEnds(t *testing.T) {
	lists := [][]string{nil, {"x"}, {"x", "y"}, {"x", "y", "z"}, make([]string, 9)}
	paths := [][]int{nil, {0}, {-1}, {sums.Sum("Ey")}, make([]int, 9)}
	for _, a := range lists {
		for _, path := range paths {
			for _, i := range []int{-1 << 63, -1, 0, 1, 9, 1<<63 - 1} {
				twins.OfEntry(a, i, "x", path)
			}
			for _, b := range lists {
				twins.OfLogs(a, b, true, path)
				twins.OfLogs(a, b, false, path)
			}
		}
	}
}

// The first place from the top down at which the texts are not the same. The states have the same sum, and so have the texts with a number of the path that is 505 greater.
func TestOfAccount(t *testing.T) {
	own := api.Account{Loan: 21, State: api.State{Principal: 3}, Size: 5, Log: 6, Path: [api.Depth]int{1, 2, 3, 4, 5, 6}}
	a := own
	a.State.Spare = 2949
	checkAccount(t, a, own, 0)
	for d := range a.Path {
		a.Path[d] += 505
		checkAccount(t, a, own, d+1)
	}
	a.Log += 505
	checkAccount(t, a, own, 7)
}

func checkAccount(t *testing.T, a, own api.Account, at int) {
	t.Helper()
	x, y := twins.OfAccount(a, own)
	shown, there := accounts.Texts(a), accounts.Texts(own)
	if x != shown[at] || y != there[at] || x == y || sums.Sum(x) != sums.Sum(y) {
		t.Errorf("of %+v: %q, %q, want %q, %q", a, x, y, shown[at], there[at])
	}
}

func TestOfAccountsThatAreTheSame(t *testing.T) {
	a := api.Account{Loan: 63, Log: 4092}
	if x, y := twins.OfAccount(a, a); x != "S0 0 0 0 0 0" || y != x {
		t.Errorf("%q, %q", x, y)
	}
}
