package logs_test

import (
	"testing"

	"lender/logs"
)

func TestCut(t *testing.T) {
	for n := 2; n <= 1000; n++ {
		k := logs.Cut(n)
		if k&(k-1) != 0 || k >= n || 2*k < n {
			t.Errorf("Cut(%d) = %d", n, k)
		}
	}
	for n, want := range map[int]int{1 << 62: 1 << 61, 1<<62 + 1: 1 << 62, 1<<63 - 1: 1 << 62} {
		if k := logs.Cut(n); k != want {
			t.Errorf("Cut(%d) = %d, want %d", n, k, want)
		}
	}
}

func TestLeads(t *testing.T) {
	if x, ok := logs.Leads(1, 0, 7, nil); x != 7 || !ok {
		t.Errorf("the empty path leads to %d, %v", x, ok)
	}
	for _, c := range []struct {
		n    int
		path []int
	}{{0, nil}, {0, []int{0}}, {-1, []int{0}}, {1, []int{0}}, {2, nil}, {2, []int{-1}}, {2, []int{4093}}, {2, []int{0, 0}}, {3, []int{0, -1}}, {3, []int{-1, 0}}} {
		if x, ok := logs.Leads(c.n, 0, 7, c.path); x != 0 || ok {
			t.Errorf("of %d entries %v leads to %d, %v", c.n, c.path, x, ok)
		}
	}
}
