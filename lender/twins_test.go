package lender_test

import (
	"slices"
	"testing"

	"lender/api"
	"lender/lender"
)

// checkTwins checks that a false proof that b goes on from a is given away.
func checkTwins(t *testing.T, a, b []string, path []int) {
	t.Helper()
	if !lender.Grows(rootOf(a), len(a), rootOf(b), len(b), path) {
		t.Fatalf("the test's proof is turned down: %d and %d entries, %v", len(a), len(b), path)
	}
	_, _, texts, _ := joinStepsOf(len(a), len(b), rootOf(a), path)
	texts = append(append(texts, textsOf(a)...), textsOf(b)...)
	x, y, err := lender.Twins(a, b, path)
	checkAway(t, x, y, err, texts, texts)
}

// checkNoTwins checks that nothing comes out but an error.
func checkNoTwins(t *testing.T, a, b []string, path []int, want api.Errno) {
	t.Helper()
	if x, y, err := lender.Twins(a, b, path); x != "" || y != "" || err != want {
		t.Errorf("Twins of %d and %d entries with %d numbers = %q, %q, %d, want %d", len(a), len(b), len(path), x, y, err, want)
	}
}

// beginnings: numbers of entries of two logs, at the cuts, beside them and between them.
var beginnings = []struct{ m, n int }{
	{1, 1}, {1, 2}, {2, 2}, {1, 3}, {2, 3}, {3, 3}, {1, 4}, {2, 4}, {3, 4}, {4, 4}, {3, 5}, {4, 5}, {5, 5}, {5, 6}, {3, 7}, {5, 7}, {6, 7}, {7, 7}, {3, 8}, {4, 8}, {5, 8}, {6, 8}, {7, 8},
	{11, 13}, {12, 13}, {8, 16}, {15, 16}, {21, 27}, {63, 100}, {64, 100}, {65, 100}, {96, 100}, {99, 100}, {100, 100},
	{1, 200}, {100, 200}, {127, 200}, {128, 200}, {129, 200}, {191, 200}, {192, 200}, {193, 200}, {199, 200}, {200, 200},
}

func TestP10Examples(t *testing.T) {
	for _, c := range []struct {
		a, b []string
		path []int
		ones []string
	}{
		{[]string{"aa0"}, []string{"cdS"}, nil, []string{"Eaa0", "EcdS"}},
		{[]string{"x", "aa0"}, []string{"x", "cdS"}, []int{}, []string{"Eaa0", "EcdS"}},
		{[]string{"aa0"}, []string{"cdS", "x"}, []int{2159}, []string{"Eaa0", "EcdS"}},
		{[]string{"aa0", "x", "y"}, []string{"cdS", "x", "y", "z"}, []int{2160, 2161, nodeOf(leafOf("aa0"), 2159)}, []string{"Eaa0", "EcdS"}},
		// The sum of another log, and one beside it that makes up for it: the one text is of the check, the other of b.
		{[]string{"w"}, []string{"x", "y"}, []int{2758}, []string{"N\x6e\x08\xc6\x0a", "N\x6f\x08\x70\x08"}},
	} {
		x, y, err := lender.Twins(c.a, c.b, c.path)
		got := []string{x, y}
		slices.Sort(got)
		slices.Sort(c.ones)
		if !slices.Equal(got, c.ones) || err != api.OK {
			t.Errorf("Twins(%q, %q, %v) = %q, %q, %d, want %q", c.a, c.b, c.path, x, y, err, c.ones)
		}
	}
}

// An entry with the same sum as that of b, at each place, and b's own path.
func TestP10FalseEntryAtEveryPlace(t *testing.T) {
	d := &dice{20}
	all := entries(200)
	for _, c := range beginnings {
		b := all[:c.n]
		path := furtherOf(b, c.m)
		checkNoTwins(t, b[:c.m], b, path, api.ErrCalm)
		for i := range b[:c.m] {
			a := with(b[:c.m], i, alike(leafOf(b[i]), 2+d.below(39), b[i], d))
			checkTwins(t, a, b, path)
		}
	}
}

func TestP10TwoFalseEntries(t *testing.T) {
	d := &dice{21}
	all := entries(33)
	for n := 1; n <= 33; n++ {
		for m := 1; m <= n; m++ {
			a, b := all[:m], all[:n]
			for _, i := range []int{d.below(m), d.below(m)} {
				a = with(a, i, alike(leafOf(b[i]), 2+d.below(39), b[i], d))
			}
			checkTwins(t, a, b, furtherOf(b, m))
		}
	}
}

// Another log with the root of b's beginning: they differ early, late, and at the cuts.
func TestP10AnotherLogWithTheSameRoot(t *testing.T) {
	d := &dice{22}
	all := entries(200)
	found := 0
	for _, c := range beginnings {
		b := all[:c.n]
		for _, i := range []int{0, 1, c.m / 2, c.m - 1, 3, 4, 63, 64, 127, 128} {
			if i >= c.m || c.m < 2 {
				continue
			}
			for _, j := range []int{0, c.m / 2, c.m - 1, i ^ 1} {
				if i == j || j >= c.m {
					continue
				}
				a := with(b[:c.m], i, alike(d.below(4093), 2+d.below(39), b[i], d))
				if a, ok := mended(a, j, rootOf(b[:c.m]), d); ok {
					found++
					checkTwins(t, a, b, furtherOf(b, c.m))
				}
			}
		}
	}
	if found < 300 {
		t.Errorf("%d logs with the same root: too few", found)
	}
}

// The path is true of another log that goes on from a and has b's root.
func TestP10PathOfAnotherLog(t *testing.T) {
	d := &dice{23}
	all := entries(200)
	found := 0
	for _, c := range beginnings {
		b := all[:c.n]
		for _, i := range []int{0, c.m / 2, c.m - 1} {
			for _, j := range []int{c.m, (c.m + c.n) / 2, c.n - 1} {
				if j < c.m || j >= c.n {
					continue
				}
				other := with(b, i, alike(d.below(4093), 2+d.below(39), b[i], d))
				if other, ok := mended(other, j, rootOf(b), d); ok {
					found++
					checkTwins(t, other[:c.m], b, furtherOf(other, c.m))
				}
			}
		}
	}
	if found < 100 {
		t.Errorf("%d other logs: too few", found)
	}
}

// Numbers that are no roots of parts, up to each number of the path.
func TestP10FalsePath(t *testing.T) {
	d := &dice{24}
	all := entries(200)
	found, calm := 0, 0
	for _, c := range beginnings {
		b := all[:c.n]
		for at := range furtherOf(b, c.m) {
			for _, i := range []int{0, c.m / 2, c.m - 1, d.below(c.m)} {
				a := with(b[:c.m], i, alike(d.below(4093), 2+d.below(39), b[i], d))
				if path, ok := forgedJoin(a, b, at+1, d); ok {
					found++
					checkTwins(t, a, b, path)
				}
			}
			// With the true beginning there is nothing to give away, whatever the path.
			if path, ok := forgedJoin(b[:c.m], b, at+1, d); ok {
				calm++
				checkNoTwins(t, b[:c.m], b, path, api.ErrCalm)
			}
		}
	}
	if found < 200 || calm < 50 {
		t.Errorf("%d false paths, and %d of true beginnings: too few", found, calm)
	}
}

// Two logs that have nothing in common.
func TestP10LogsThatAreAllOther(t *testing.T) {
	d := &dice{25}
	found := 0
	for _, c := range beginnings {
		if c.m == c.n {
			continue
		}
		a, b := named(c.m), entries(c.n)
		for round := 0; round < 4; round++ {
			if path, ok := forgedJoin(a, b, len(furtherOf(b, c.m)), d); ok {
				found++
				checkTwins(t, a, b, path)
			}
		}
	}
	if found < 40 {
		t.Errorf("%d false paths: too few", found)
	}
}

func TestP10GreatestAndLeastNumbers(t *testing.T) {
	d := &dice{26}
	for _, p := range []int{0, 1, 255, 256, 4091, 4092} {
		found := 0
		for found < 3 {
			b := []string{alike(d.below(4093), 5, "", d), alike(d.below(4093), 5, "", d)}
			for sum := 0; sum < 4093; sum++ {
				if nodeOf(sum, p) == rootOf(b) {
					found++
					checkTwins(t, []string{alike(sum, 7, b[0], d)}, b, []int{p})
				}
			}
		}
	}
}

func TestP10NumbersThatMayNotBe(t *testing.T) {
	d := &dice{27}
	for _, c := range []struct{ m, n int }{{1, 2}, {2, 3}, {3, 4}, {3, 5}, {6, 7}, {1, 200}, {127, 200}, {128, 200}, {129, 200}, {192, 200}} {
		b := entries(c.n)
		for _, i := range []int{0, c.m - 1} {
			a := with(b[:c.m], i, alike(leafOf(b[i]), 9, b[i], d))
			for at, truth := range furtherOf(b, c.m) {
				for _, p := range append([]int{-1, 4093, truth + 4093, truth - 4093, truth + 65536, truth - 65536}, strange...) {
					if p >= 0 && p <= 4092 {
						continue
					}
					path := furtherOf(b, c.m)
					path[at] = p
					checkNoTwins(t, a, b, path, api.ErrCalm)
				}
			}
		}
	}
}

func TestP10PathsTooShortOrTooLong(t *testing.T) {
	d := &dice{28}
	for _, c := range beginnings {
		b := entries(c.n)
		a := with(b[:c.m], c.m-1, alike(leafOf(b[c.m-1]), 9, b[c.m-1], d))
		path := furtherOf(b, c.m)
		for _, p := range []int{0, rootOf(a), rootOf(b), 4092} {
			checkNoTwins(t, a, b, append([]int{p}, path...), api.ErrCalm)
			checkNoTwins(t, a, b, append(path[:len(path):len(path)], p), api.ErrCalm)
		}
		if len(path) > 0 {
			checkNoTwins(t, a, b, path[1:], api.ErrCalm)
			checkNoTwins(t, a, b, path[:len(path)-1], api.ErrCalm)
			checkNoTwins(t, a, b, nil, api.ErrCalm)
		}
		checkNoTwins(t, a, b, make([]int, 100000), api.ErrCalm)
	}
}

func TestP10NothingToGiveAway(t *testing.T) {
	none, one, l := []string{}, []string{"x"}, named(13)
	for _, c := range []struct {
		a, b []string
	}{
		{nil, nil}, {none, none}, {nil, one}, {none, l}, {one, nil}, {l, none}, {one, one}, {l, l}, {l[:12], l}, {l, l[:12]},
		// Two logs without a proof.
		{one, []string{"y"}}, {one, l}, {l, entries(13)}, {with(l, 0, "x"), l}, {with(l, 12, "x"), l}, {with(l[:8], 7, "x"), l}, {l[1:], l},
		// A longer log, with entries that have the same sums.
		{[]string{"aa0", "x"}, []string{"cdS"}}, {append(with(l, 0, "aa0"), "x"), with(l, 0, "cdS")},
	} {
		for _, path := range [][]int{nil, {}, {0}, {leafOf("x")}, {rootOf(c.a)}, {rootOf(c.b)}, make([]int, 4), {-1}, {4093}} {
			checkNoTwins(t, c.a, c.b, path, api.ErrCalm)
		}
		for m := 1; m <= len(c.b); m++ {
			if m != len(c.a) || rootOf(c.a) != rootOf(c.b[:m]) {
				checkNoTwins(t, c.a, c.b, furtherOf(c.b, m), api.ErrCalm)
			}
		}
	}
}

func TestP10LongestThatMayBe(t *testing.T) {
	d := &dice{29}
	for _, c := range []struct{ m, n, i int }{{1, 1, 0}, {1, 200, 0}, {200, 200, 0}, {200, 200, 199}, {128, 200, 127}, {199, 200, 198}} {
		b := longest(c.n, c.i, 40)
		for _, bytes := range []int{2, 39, 40} {
			a := with(b[:c.m], c.i, alike(leafOf(b[c.i]), bytes, b[c.i], d))
			checkTwins(t, a, b, furtherOf(b, c.m))
			checkTwins(t, b[:c.m], append(append([]string{}, a...), b[c.m:]...), furtherOf(b, c.m))
		}
		// One byte more is too long, in a or in b.
		a := with(b[:c.m], c.i, alike(leafOf(b[c.i]), 41, b[c.i], d))
		checkNoTwins(t, a, b, furtherOf(b, c.m), api.ErrLong)
		checkNoTwins(t, b[:c.m], append(append([]string{}, a...), b[c.m:]...), furtherOf(b, c.m), api.ErrLong)
	}
}

func TestP10TooLong(t *testing.T) {
	d := &dice{30}
	for _, c := range tooLong {
		// The length of either is named first, whatever the other is.
		for _, other := range [][]string{nil, {"x"}, named(5), named(200), named(201), c.l} {
			for _, path := range [][]int{nil, {0}, make([]int, 8), {-1}} {
				checkNoTwins(t, c.l, other, path, api.ErrLong)
				checkNoTwins(t, other, c.l, path, api.ErrLong)
			}
		}
	}
	// The proof is right in itself: the number of entries alone is too great.
	b := named(201)
	for _, m := range []int{1, 128, 200, 201} {
		a := with(b[:m], 0, alike(leafOf(b[0]), 9, b[0], d))
		checkNoTwins(t, a, b, furtherOf(b, m), api.ErrLong)
		checkNoTwins(t, b[:m], b, furtherOf(b, m), api.ErrLong)
	}
}
