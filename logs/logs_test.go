package logs_test

import (
	"testing"

	"lender/logs"
	"lender/sums"
)

func TestCut(t *testing.T) {
	for n := 2; n <= 1000; n++ {
		k := logs.Cut(n)
		if k&(k-1) != 0 || k >= n || 2*k < n {
			t.Errorf("Cut(%d) = %d", n, k)
		}
	}
	for n, want := range map[int]int{1 << 62: 1 << 61, 1<<62 + 1: 1 << 62, 1<<63 - 1: 1 << 62} {
		if k := logs.Cut(n); k != want {
			t.Errorf("Cut(%d) = %d, want %d", n, k, want)
		}
	}
}

func TestLeads(t *testing.T) {
	if x, ok := logs.Leads(1, 0, 7, nil); x != 7 || !ok {
		t.Errorf("the empty path leads to %d, %v", x, ok)
	}
	for _, c := range []struct {
		n    int
		path []int
	}{{0, nil}, {0, []int{0}}, {-1, []int{0}}, {1, []int{0}}, {2, nil}, {2, []int{-1}}, {2, []int{4093}}, {2, []int{0, 0}}, {3, []int{0, -1}}, {3, []int{-1, 0}}} {
		if x, ok := logs.Leads(c.n, 0, 7, c.path); x != 0 || ok {
			t.Errorf("of %d entries %v leads to %d, %v", c.n, c.path, x, ok)
		}
	}
}

// Whatever m is, the path ends: one entry is never cut.
func TestFurtherEnds(t *testing.T) {
	for _, n := range []int{0, 1, 2, 3, 8} {
		for _, m := range []int{-1 << 63, -1, 0, n + 1, 1<<63 - 1} {
			logs.Further(make([]string, n), m, true)
			logs.Further(make([]string, n), m, false)
		}
	}
}

func TestJoins(t *testing.T) {
	for _, c := range []struct {
		m, n, old int
		whole     bool
		path      []int
		x, y      int
		ok        bool
	}{
		{1, 1, 7, true, nil, 7, 7, true}, {3, 3, 4092, true, nil, 4092, 4092, true}, {1, 1, 7, true, []int{7}, 0, 0, false},
		{1, 1, 7, false, []int{9}, 9, 9, true}, {3, 3, 7, false, []int{0}, 0, 0, true}, {1, 1, 7, false, nil, 0, 0, false}, {1, 1, 7, false, []int{9, 9}, 0, 0, false},
		{1, 1, 7, false, []int{-1}, 0, 0, false}, {1, 1, 7, false, []int{4093}, 0, 0, false},
		{1, 2, 7, true, []int{9}, 7, sums.Node(7, 9), true}, {1, 2, 7, false, []int{8, 9}, 8, sums.Node(8, 9), true},
		{3, 4, 7, true, []int{8, 9, 6}, sums.Node(6, 8), sums.Node(6, sums.Node(8, 9)), true},
		// Old is looked at even where it is not used.
		{1, 1, -1, true, nil, 0, 0, false}, {1, 1, 4093, true, nil, 0, 0, false}, {1, 1, -1, false, []int{9}, 0, 0, false}, {1, 1, 4093, false, []int{9}, 0, 0, false},
		{3, 4, 4093, true, []int{8, 9, 6}, 0, 0, false}, {3, 4, -1, true, []int{8, 9, 6}, 0, 0, false},
		{0, 0, 7, true, nil, 0, 0, false}, {0, 1, 7, true, []int{9}, 0, 0, false}, {2, 1, 7, true, nil, 0, 0, false}, {-1, -1, 7, true, nil, 0, 0, false}, {1, 2, 7, true, nil, 0, 0, false},
		{1, 2, 7, true, []int{9, 9}, 0, 0, false}, {3, 4, 7, true, []int{9, 6}, 0, 0, false}, {1, 2, 7, true, []int{-1}, 0, 0, false}, {1, 2, 7, true, []int{4093}, 0, 0, false},
	} {
		x, y, ok := logs.Joins(c.m, c.n, c.old, c.whole, c.path)
		if x != c.x || y != c.y || ok != c.ok {
			t.Errorf("for %d, %d, %d, %v the path %v joins %d, %d, %v", c.m, c.n, c.old, c.whole, c.path, x, y, ok)
		}
	}
}
