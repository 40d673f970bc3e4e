package logs_test

import (
	"testing"

	"lender/logs"
	"lender/sums"
)

func TestCut(t *testing.T) {
	for n := 2; n <= 1000; n++ {
		k := logs.Cut(n)
		if k&(k-1) != 0 || k >= n || 2*k < n {
			t.Errorf("Cut(%d) = %d", n, k)
		}
	}
	for n, want := range map[int]int{1 << 62: 1 << 61, 1<<62 + 1: 1 << 62, 1<<63 - 1: 1 << 62} {
		if k := logs.Cut(n); k != want {
			t.Errorf("Cut(%d) = %d, want %d", n, k, want)
		}
	}
}

func TestTextAndRoot(t *testing.T) {
	x, y, z := sums.Sum("Ex"), sums.Sum("Ey"), sums.Sum("Ez")
	for _, c := range []struct {
		l    []string
		want string
	}{
		{nil, ""}, {[]string{""}, "E"}, {[]string{"x"}, "Ex"}, {[]string{"x", "y"}, sums.NodeText(x, y)},
		{[]string{"x", "y", "z"}, sums.NodeText(sums.Node(x, y), z)},
	} {
		if got := logs.Text(c.l); got != c.want {
			t.Errorf("Text(%q) = %q, want %q", c.l, got, c.want)
		}
		if got := logs.Root(c.l); got != sums.Sum(c.want) {
			t.Errorf("Root(%q) = %d, want %d", c.l, got, sums.Sum(c.want))
		}
	}
}

func TestBegins(t *testing.T) {
	for _, c := range []struct {
		a, b []string
		want bool
	}{
		{nil, nil, true}, {nil, []string{"x"}, true}, {[]string{"x"}, nil, false}, {[]string{"x"}, []string{"x"}, true},
		{[]string{"x"}, []string{"y"}, false}, {[]string{"x"}, []string{"x", "y"}, true}, {[]string{"y"}, []string{"x", "y"}, false},
		{[]string{"x", "y"}, []string{"x"}, false}, {[]string{"x", "y"}, []string{"x", "z"}, false}, {[]string{"x", ""}, []string{"x"}, false},
	} {
		if logs.Begins(c.a, c.b) != c.want {
			t.Errorf("Begins(%q, %q) is not %v", c.a, c.b, c.want)
		}
	}
}

func TestLeads(t *testing.T) {
	x := sums.Sum("Ex")
	for _, c := range []struct {
		n, i int
		path []int
		want string
	}{
		{1, 0, nil, "Ex"}, {2, 0, []int{7}, sums.NodeText(x, 7)}, {2, 1, []int{7}, sums.NodeText(7, x)},
		{3, 1, []int{7, 8}, sums.NodeText(sums.Node(7, x), 8)}, {3, 2, []int{7}, sums.NodeText(7, x)},
	} {
		if text, ok := logs.Leads(c.n, c.i, "Ex", c.path); text != c.want || !ok {
			t.Errorf("of %d entries at %d %v leads to the sum of %q, %v", c.n, c.i, c.path, text, ok)
		}
	}
	for _, c := range []struct {
		n    int
		path []int
	}{{0, nil}, {0, []int{0}}, {-1, []int{0}}, {1, []int{0}}, {2, nil}, {2, []int{-1}}, {2, []int{4093}}, {2, []int{0, 0}}, {3, []int{0, -1}}, {3, []int{-1, 0}}} {
		if text, ok := logs.Leads(c.n, 0, "Ex", c.path); text != "" || ok {
			t.Errorf("of %d entries %v leads to the sum of %q, %v", c.n, c.path, text, ok)
		}
	}
}

// Whatever m is, the path ends: one entry is never cut.
func TestFurtherEnds(t *testing.T) {
	for _, n := range []int{0, 1, 2, 3, 8} {
		for _, m := range []int{-1 << 63, -1, 0, n + 1, 1<<63 - 1} {
			logs.Further(make([]string, n), m, true)
			logs.Further(make([]string, n), m, false)
		}
	}
}

func TestJoins(t *testing.T) {
	for _, c := range []struct {
		m, n, old int
		whole     bool
		path      []int
		x, y      int
		ok        bool
	}{
		{1, 1, 7, true, nil, 7, 7, true}, {3, 3, 4092, true, nil, 4092, 4092, true}, {1, 1, 7, true, []int{7}, 0, 0, false},
		{1, 1, 7, false, []int{9}, 9, 9, true}, {3, 3, 7, false, []int{0}, 0, 0, true}, {1, 1, 7, false, nil, 0, 0, false}, {1, 1, 7, false, []int{9, 9}, 0, 0, false},
		{1, 1, 7, false, []int{-1}, 0, 0, false}, {1, 1, 7, false, []int{4093}, 0, 0, false},
		{1, 2, 7, true, []int{9}, 7, sums.Node(7, 9), true}, {1, 2, 7, false, []int{8, 9}, 8, sums.Node(8, 9), true},
		{3, 4, 7, true, []int{8, 9, 6}, sums.Node(6, 8), sums.Node(6, sums.Node(8, 9)), true},
		// Old is looked at even where it is not used.
		{1, 1, -1, true, nil, 0, 0, false}, {1, 1, 4093, true, nil, 0, 0, false}, {1, 1, -1, false, []int{9}, 0, 0, false}, {1, 1, 4093, false, []int{9}, 0, 0, false},
		{3, 4, 4093, true, []int{8, 9, 6}, 0, 0, false}, {3, 4, -1, true, []int{8, 9, 6}, 0, 0, false},
		{0, 0, 7, true, nil, 0, 0, false}, {0, 1, 7, true, []int{9}, 0, 0, false}, {2, 1, 7, true, nil, 0, 0, false}, {-1, -1, 7, true, nil, 0, 0, false}, {1, 2, 7, true, nil, 0, 0, false},
		{1, 2, 7, true, []int{9, 9}, 0, 0, false}, {3, 4, 7, true, []int{9, 6}, 0, 0, false}, {1, 2, 7, true, []int{-1}, 0, 0, false}, {1, 2, 7, true, []int{4093}, 0, 0, false},
	} {
		x, y, ok := logs.Joins(c.m, c.n, c.old, c.whole, c.path)
		if x != c.x || y != c.y || ok != c.ok {
			t.Errorf("for %d, %d, %d, %v the path %v joins %d, %d, %v", c.m, c.n, c.old, c.whole, c.path, x, y, ok)
		}
	}
}
