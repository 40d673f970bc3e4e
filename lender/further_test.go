package lender_test

import (
	"fmt"
	"testing"

	"lender/api"
	"lender/lender"
)

func TestP7FurtherExamples(t *testing.T) {
	three := []string{"x", "y", "z"}
	for _, c := range []struct {
		l    []string
		m    int
		want []int
	}{
		{three, 1, []int{2160, 2161}}, {three, 2, []int{2161}}, {three, 3, []int{}}, {[]string{"x"}, 1, []int{}}, {[]string{""}, 1, []int{}},
		{named(2), 1, []int{1446}}, {named(2), 2, []int{}},
		{named(5), 3, []int{1447, 1448, 3272, 1449}}, {named(5), 4, []int{1449}}, {named(5), 5, []int{}},
		{named(8), 3, []int{1447, 1448, 3272, 1398}}, {named(8), 4, []int{1398}}, {named(8), 5, []int{1449, 1450, 1408, 423}},
		{named(200), 1, []int{1446, 4015, 1398, 964, 1238, 3280, 3779, 824}},
		{named(200), 2, []int{4015, 1398, 964, 1238, 3280, 3779, 824}},
		{named(200), 100, []int{2490, 515, 1578, 3409, 1710, 3269, 824}},
		{named(200), 127, []int{3015, 3016, 415, 3063, 1625, 3595, 1710, 3269, 824}},
		{named(200), 128, []int{824}},
		{named(200), 129, []int{3017, 3018, 3165, 41, 619, 1038, 1797, 2419, 3310}},
		{named(200), 192, []int{1877, 2419, 3310}},
		{named(200), 193, []int{759, 760, 2967, 1534, 1877, 3310}},
		{named(200), 199, []int{765, 766, 3710, 1337, 1877, 3310}},
		{named(200), 200, []int{}},
	} {
		if got, err := lender.Further(c.l, c.m); fmt.Sprint(got) != fmt.Sprint(c.want) || err != api.OK {
			t.Errorf("Further of %d entries from %d = %v, %d, want %v", len(c.l), c.m, got, err, c.want)
		}
	}
}

// Every beginning of every log: those at a cut, one below it and one above it are among them.
func TestP7P8FurtherFromEveryBeginning(t *testing.T) {
	all := entries(200)
	var roots []int
	for n := 0; n <= 200; n++ {
		roots = append(roots, rootOf(all[:n]))
	}
	for n := 1; n <= 200; n++ {
		for m := 1; m <= n; m++ {
			got, err := lender.Further(all[:n], m)
			if want := furtherOf(all[:n], m); fmt.Sprint(got) != fmt.Sprint(want) || err != api.OK {
				t.Fatalf("Further of %d entries from %d = %v, %d, want %v", n, m, got, err, want)
			}
			if !lender.Grows(roots[m], m, roots[n], n, got) {
				t.Fatalf("Grows turns the path from %d to %d entries down", m, n)
			}
		}
	}
}

func TestP7BeginningThatIsNot(t *testing.T) {
	for _, n := range []int{0, 1, 2, 3, 4, 8, 128, 199, 200} {
		for _, m := range append([]int{0, n + 1, n + 2}, strange...) {
			if got, err := lender.Further(named(n), m); got != nil || err != api.ErrArg {
				t.Errorf("Further of %d entries from %d = %v, %d", n, m, got, err)
			}
		}
	}
	for _, m := range []int{0, 1} {
		if got, err := lender.Further([]string{}, m); got != nil || err != api.ErrArg {
			t.Errorf("Further of no entries from %d = %v, %d", m, got, err)
		}
	}
}

func TestP7TooLong(t *testing.T) {
	for _, c := range tooLong {
		// Where the beginning is wrong as well, the length is named first.
		for _, m := range append([]int{0, 1, 2, len(c.l), len(c.l) + 1}, strange...) {
			if got, err := lender.Further(c.l, m); got != nil || err != api.ErrLong {
				t.Errorf("%s: Further from %d = %v, %d", c.what, m, got, err)
			}
		}
	}
}

func TestP7LongestThatMayBe(t *testing.T) {
	for _, l := range [][]string{longest(1, 0, 40), longest(9, 0, 40), longest(9, 8, 40), longest(200, 199, 40), make([]string, 200)} {
		for _, m := range []int{1, len(l)} {
			if got, err := lender.Further(l, m); fmt.Sprint(got) != fmt.Sprint(furtherOf(l, m)) || err != api.OK {
				t.Errorf("Further of %d entries from %d = %v, %d, want %v", len(l), m, got, err, furtherOf(l, m))
			}
		}
	}
}

func TestP8GrowsExamples(t *testing.T) {
	for _, c := range []struct {
		old, m, root, n int
		path            []int
		want            bool
	}{
		{7, 1, 7, 1, nil, true}, {7, 1, 7, 1, []int{}, true}, {7, 1, 8, 1, nil, false}, {7, 1, 7, 1, []int{7}, false},
		{0, 3, 0, 3, nil, true}, {4092, 200, 4092, 200, nil, true}, {7, 200, 7, 200, []int{7}, false},
		{7, 1, nodeOf(7, 9), 2, []int{9}, true}, {7, 1, nodeOf(9, 7), 2, []int{9}, false}, {9, 1, nodeOf(7, 9), 2, []int{9}, false},
		{7, 2, nodeOf(7, 9), 3, []int{9}, true}, {7, 128, nodeOf(7, 9), 200, []int{9}, true},
		// A beginning that is a whole part is not told again; one that is not is told part by part.
		{7, 2, nodeOf(7, 9), 4, []int{9}, true}, {7, 2, nodeOf(7, 9), 4, []int{7, 9}, false},
		{nodeOf(9, 7), 3, nodeOf(9, nodeOf(7, 8)), 4, []int{7, 8, 9}, true}, {nodeOf(9, 7), 3, nodeOf(9, nodeOf(7, 8)), 4, []int{8, 9}, false},
		{nodeOf(9, 7), 3, nodeOf(nodeOf(9, nodeOf(7, 8)), 6), 5, []int{7, 8, 9, 6}, true},
		{nodeOf(9, 7), 3, nodeOf(nodeOf(9, nodeOf(7, 8)), 6), 5, []int{7, 8, 6, 9}, false},
		{nodeOf(9, 7), 3, nodeOf(9, 7), 4, []int{7, 8, 9}, false}, {7, 3, nodeOf(9, nodeOf(7, 8)), 4, []int{7, 8, 9}, false},
		// From 6 to 7 entries the old log ends with the whole part 4 to 5, behind the part 0 to 3.
		{nodeOf(9, 7), 6, nodeOf(9, nodeOf(7, 8)), 7, []int{7, 8, 9}, true},
	} {
		if got := lender.Grows(c.old, c.m, c.root, c.n, c.path); got != c.want {
			t.Errorf("Grows(%d, %d, %d, %d, %v) = %v", c.old, c.m, c.root, c.n, c.path, got)
		}
	}
}

// nothing tells whether Grows is false for whatever root.
func nothing(old, m, n int, path []int) bool {
	for root := -1; root <= 4093; root++ {
		if lender.Grows(old, m, root, n, path) {
			return false
		}
	}
	for _, root := range append([]int{old}, strange...) {
		if lender.Grows(old, m, root, n, path) {
			return false
		}
	}
	return true
}

func TestP8PathsTooShortOrTooLong(t *testing.T) {
	for _, c := range []struct{ n, m int }{{1, 1}, {2, 1}, {2, 2}, {3, 1}, {3, 2}, {3, 3}, {4, 3}, {5, 3}, {5, 4}, {7, 6}, {8, 3}, {129, 128}, {200, 1}, {200, 127}, {200, 128}, {200, 129}, {200, 199}, {200, 200}} {
		l := named(c.n)
		old, path := rootOf(l[:c.m]), furtherOf(l, c.m)
		for _, p := range []int{0, 1, old, 4092} {
			more, ahead := append(append([]int{}, path...), p), append([]int{p}, path...)
			if !nothing(old, c.m, c.n, more) || !nothing(old, c.m, c.n, ahead) {
				t.Errorf("a path from %d to %d entries with %d besides joins something", c.m, c.n, p)
			}
		}
		if len(path) > 0 && !(nothing(old, c.m, c.n, path[1:]) && nothing(old, c.m, c.n, path[:len(path)-1]) && nothing(old, c.m, c.n, nil)) {
			t.Errorf("a path from %d to %d entries that is too short joins something", c.m, c.n)
		}
	}
	if !nothing(7, 1, 200, make([]int, 1000000)) || !nothing(7, 3, 4, make([]int, 1000000)) || !nothing(7, 200, 200, make([]int, 1000000)) {
		t.Error("a path of a million numbers joins something")
	}
}

func TestP8NumbersOfThePath(t *testing.T) {
	for _, c := range []struct{ m, n, numbers int }{{1, 2, 1}, {2, 3, 1}, {3, 4, 3}, {3, 5, 4}, {6, 7, 3}, {1, 200, 8}, {127, 200, 9}, {128, 200, 1}, {129, 200, 9}, {192, 200, 3}} {
		for at := 0; at < c.numbers; at++ {
			path := make([]int, c.numbers)
			for _, p := range []int{0, 1, 255, 256, 4091, 4092} {
				path[at] = p
				old, root, ok := joinsOf(c.m, c.n, 0, path)
				if !ok || !lender.Grows(old, c.m, root, c.n, path) {
					t.Errorf("from %d to %d entries: the path %v is turned down", c.m, c.n, path)
				}
			}
			for _, p := range append([]int{-2, 4094, 4095, 4093 + 65536, 65535}, strange...) {
				if p >= 0 && p <= 4092 {
					continue
				}
				checkBadNumber(t, c.m, c.n, path, at, p)
			}
		}
	}
}

// checkBadNumber lays a number that may not be into a path, and tries what would be joined if its two bytes, cut in one way or another, or its rest were taken.
func checkBadNumber(t *testing.T, m, n int, path []int, at, p int) {
	for _, taken := range []int{p & 65535, int(byte(p%256)) + 256*int(byte(p/256)), (p%4093 + 4093) % 4093} {
		path[at] = taken
		old, root, ok := climbOf(m, n, 0, path)
		path[at] = p
		if !ok || lender.Grows(old, m, root, n, path) {
			t.Errorf("from %d to %d entries: the path %v joins something", m, n, path)
		}
	}
}

func TestP8OldNumber(t *testing.T) {
	for _, c := range []struct{ m, n, numbers int }{{1, 1, 0}, {3, 3, 0}, {200, 200, 0}, {1, 2, 1}, {2, 3, 1}, {4, 8, 1}, {1, 200, 8}, {128, 200, 1}, {3, 4, 3}, {127, 200, 9}} {
		path := make([]int, c.numbers)
		// Where the beginning is no whole part the old sum comes of the path alone.
		for _, old := range []int{0, 1, 255, 256, 4091, 4092} {
			x, root, ok := joinsOf(c.m, c.n, old, path)
			if !ok || lender.Grows(old, c.m, root, c.n, path) != (x == old) || !lender.Grows(x, c.m, root, c.n, path) {
				t.Errorf("Grows from %d to %d entries with the old sum %d", c.m, c.n, old)
			}
		}
		x, _, _ := joinsOf(c.m, c.n, 0, path)
		for _, old := range append([]int{-1, 4093, 4094, -4092, x + 4093, x - 4093, x + 65536, x - 65536}, strange...) {
			if old >= 0 && old <= 4092 {
				continue
			}
			if !nothing(old, c.m, c.n, path) {
				t.Errorf("Grows from %d to %d entries takes the old sum %d", c.m, c.n, old)
			}
		}
	}
}

func TestP8BeginningsThatMayNotBe(t *testing.T) {
	paths := [][]int{nil, {7}, {0, 0}, make([]int, 8), make([]int, 9), make([]int, 63), make([]int, 64)}
	for _, c := range []struct{ m, n int }{
		{0, 0}, {0, 1}, {0, 2}, {0, 200}, {-1, 1}, {-1, -1}, {-2, -1}, {1, 0}, {2, 1}, {3, 2}, {201, 200}, {200, 199},
		{201, 201}, {1, 201}, {128, 201}, {200, 201}, {1, 256}, {256, 256}, {-1, 200},
	} {
		for _, path := range paths {
			if !nothing(7, c.m, c.n, path) {
				t.Errorf("Grows from %d to %d entries with %d numbers", c.m, c.n, len(path))
			}
		}
	}
	for _, s := range strange {
		for _, path := range paths {
			if !nothing(7, s, 200, path) || !nothing(7, 1, s, path) || !nothing(7, s, s, path) {
				t.Errorf("Grows of %d entries with %d numbers", s, len(path))
			}
		}
	}
}

// The path from 201 entries on is right in itself: their number alone is too great.
func TestP8OneEntryTooMany(t *testing.T) {
	l := named(201)
	for _, m := range []int{1, 127, 128, 129, 200, 201} {
		if lender.Grows(rootOf(l[:m]), m, rootOf(l), 201, furtherOf(l, m)) {
			t.Errorf("Grows from %d to 201 entries", m)
		}
		if m <= 200 && !lender.Grows(rootOf(l[:m]), m, rootOf(l[:200]), 200, furtherOf(l[:200], m)) {
			t.Errorf("Grows from %d to 200 entries is false", m)
		}
	}
}

// A path needs no log behind it: any numbers of the right count join something.
func TestP8AnyPath(t *testing.T) {
	d := &dice{2}
	joined := 0
	for n := 1; n <= 200; n++ {
		for m := 1; m <= n; m++ {
			for long := 0; long <= 10; long++ {
				path := make([]int, long)
				for j := range path {
					path[j] = d.below(4093)
				}
				old, root, ok := joinsOf(m, n, d.below(4093), path)
				if ok {
					joined++
				}
				if lender.Grows(old, m, root, n, path) != ok {
					t.Fatalf("Grows(%d, %d, %d, %d, %v) is not %v", old, m, root, n, path, ok)
				}
				if lender.Grows(old, m, (root+1)%4093, n, path) {
					t.Fatalf("Grows(%d, %d, %d, %d, %v) is true", old, m, (root+1)%4093, n, path)
				}
			}
		}
	}
	if joined != 200*201/2 {
		t.Errorf("%d paths joined something, want one for each beginning", joined)
	}
}

func TestP8AnotherOldOrRoot(t *testing.T) {
	l := named(13)
	root := rootOf(l)
	for m := 1; m <= 13; m++ {
		old, path := rootOf(l[:m]), furtherOf(l, m)
		for other := 0; other <= 4092; other++ {
			x, y, _ := joinsOf(m, 13, other, path)
			if lender.Grows(other, m, root, 13, path) != (x == other && y == root) {
				t.Fatalf("from %d entries with the old sum %d", m, other)
			}
			if lender.Grows(old, m, other, 13, path) != (other == root) {
				t.Fatalf("from %d entries with the root %d", m, other)
			}
		}
		for j := 1; j <= 13; j++ {
			x, y, ok := joinsOf(j, 13, old, path)
			if lender.Grows(old, j, root, 13, path) != (ok && x == old && y == root) {
				t.Errorf("the path from %d entries as one from %d", m, j)
			}
		}
		for _, far := range strange {
			if lender.Grows(old, m, far, 13, path) {
				t.Errorf("from %d entries with the root %d", m, far)
			}
		}
	}
}
