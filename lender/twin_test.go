package lender_test

import (
	"slices"
	"strings"
	"testing"

	"lender/api"
	"lender/lender"
)

// checkAway checks that two texts give a proof away, and are taken from where they should be.
func checkAway(t *testing.T, x, y string, err api.Errno, ones, others []string) {
	t.Helper()
	if err != api.OK || x == y || sumOf(x) != sumOf(y) {
		t.Fatalf("%q, %q, %d do not give it away", x, y, err)
	}
	if !slices.Contains(ones, x) || !slices.Contains(others, y) {
		t.Fatalf("%q, %q are taken from elsewhere", x, y)
	}
}

// checkTwin checks that a false proof is given away.
func checkTwin(t *testing.T, l []string, i int, entry string, path []int) {
	t.Helper()
	if !lender.Within(rootOf(l), len(l), i, entry, path) {
		t.Fatalf("the test's proof is turned down: %d entries, place %d, %q, %v", len(l), i, entry, path)
	}
	_, steps, _ := stepsOf(len(l), i, leafOf(entry), path)
	x, y, err := lender.Twin(l, i, entry, path)
	checkAway(t, x, y, err, append(steps, "E"+entry), textsOf(l))
}

// checkNoTwin checks that nothing comes out but an error.
func checkNoTwin(t *testing.T, l []string, i int, entry string, path []int, want api.Errno) {
	t.Helper()
	if x, y, err := lender.Twin(l, i, entry, path); x != "" || y != "" || err != want {
		t.Errorf("Twin of %d entries at %d with %.50q, %d numbers = %q, %q, %d, want %d", len(l), i, entry, len(path), x, y, err, want)
	}
}

var lengths = []int{1, 2, 3, 4, 5, 6, 7, 8, 9, 12, 13, 15, 16, 17, 31, 32, 33, 63, 64, 65, 127, 128, 129, 192, 199, 200}

func TestP9Examples(t *testing.T) {
	for _, c := range []struct {
		l     []string
		i     int
		entry string
		path  []int
		x, y  string
	}{
		{[]string{"aa0"}, 0, "cdS", nil, "EcdS", "Eaa0"},
		{[]string{"cdS"}, 0, "aa0", []int{}, "Eaa0", "EcdS"},
		{[]string{"x", "aa0"}, 1, "cdS", []int{2159}, "EcdS", "Eaa0"},
		{[]string{"aa0", "x", "z"}, 0, "cdS", []int{2159, 2161}, "EcdS", "Eaa0"},
		// The sum of another entry, and one beside it that makes up for it: no sum but the root is the log's.
		{[]string{"x", "y"}, 0, "w", []int{2758}, "N\x6e\x08\xc6\x0a", "N\x6f\x08\x70\x08"},
	} {
		if x, y, err := lender.Twin(c.l, c.i, c.entry, c.path); x != c.x || y != c.y || err != api.OK {
			t.Errorf("Twin(%q, %d, %q, %v) = %q, %q, %d, want %q, %q", c.l, c.i, c.entry, c.path, x, y, err, c.x, c.y)
		}
	}
}

// Another entry with the same sum, and the path of the true one.
func TestP9FalseEntryAtEveryPlace(t *testing.T) {
	d := &dice{9}
	for _, n := range lengths {
		l := entries(n)
		for i := range l {
			entry, path := alike(leafOf(l[i]), 2+d.below(39), l[i], d), pathOf(l, i)
			checkTwin(t, l, i, entry, path)
			checkTwin(t, with(l, i, entry), i, l[i], path)
			checkNoTwin(t, l, i, l[i], path, api.ErrCalm)
		}
	}
}

// Another entry, and numbers that are no roots of parts, up to each number of the path.
func TestP9FalsePath(t *testing.T) {
	d := &dice{10}
	found := [8]int{}
	for _, n := range lengths {
		l := entries(n)
		for _, i := range []int{0, n / 3, n / 2, n - 1} {
			for at := range pathOf(l, i) {
				entry := alike(d.below(4093), 2+d.below(39), l[i], d)
				if path, ok := forgedPath(l, i, entry, at, d); ok {
					found[at]++
					checkTwin(t, l, i, entry, path)
				}
				// With the true entry there is nothing to give away, whatever the path.
				if path, ok := forgedPath(l, i, l[i], at, d); ok {
					checkNoTwin(t, l, i, l[i], path, api.ErrCalm)
				}
			}
		}
	}
	if slices.Min(found[:]) < 3 {
		t.Errorf("false paths of each number: %v: too few", found)
	}
}

func TestP9GreatestAndLeastNumbers(t *testing.T) {
	d := &dice{11}
	for _, p := range []int{0, 1, 255, 256, 4091, 4092} {
		for i := 0; i < 2; i++ {
			found := 0
			for found < 3 {
				l := []string{alike(d.below(4093), 5, "", d), alike(d.below(4093), 5, "", d)}
				for sum := 0; sum < 4093; sum++ {
					if x, _ := leadsOf(2, i, sum, []int{p}); x == rootOf(l) {
						found++
						checkTwin(t, l, i, alike(sum, 7, l[i], d), []int{p})
					}
				}
			}
		}
	}
}

func TestP9NumbersThatMayNotBe(t *testing.T) {
	d := &dice{12}
	for _, n := range []int{2, 3, 7, 200} {
		l := entries(n)
		for _, i := range []int{0, n - 1} {
			entry := alike(leafOf(l[i]), 9, l[i], d)
			for at, truth := range pathOf(l, i) {
				for _, p := range append([]int{-1, 4093, truth + 4093, truth - 4093, truth + 65536, truth - 65536}, strange...) {
					if p >= 0 && p <= 4092 {
						continue
					}
					path := pathOf(l, i)
					path[at] = p
					checkNoTwin(t, l, i, entry, path, api.ErrCalm)
				}
			}
		}
	}
}

func TestP9PathsTooShortOrTooLong(t *testing.T) {
	d := &dice{13}
	for _, n := range lengths {
		l := entries(n)
		for _, i := range []int{0, n / 2, n - 1} {
			entry, path := alike(leafOf(l[i]), 9, l[i], d), pathOf(l, i)
			for _, p := range []int{0, leafOf(entry), 4092} {
				checkNoTwin(t, l, i, entry, append([]int{p}, path...), api.ErrCalm)
				checkNoTwin(t, l, i, entry, append(path[:len(path):len(path)], p), api.ErrCalm)
			}
			if len(path) > 0 {
				checkNoTwin(t, l, i, entry, path[1:], api.ErrCalm)
				checkNoTwin(t, l, i, entry, path[:len(path)-1], api.ErrCalm)
				checkNoTwin(t, l, i, entry, nil, api.ErrCalm)
			}
			checkNoTwin(t, l, i, entry, make([]int, 100000), api.ErrCalm)
		}
	}
}

func TestP9ProofsThatAreTurnedDown(t *testing.T) {
	l := named(13)
	for i := range l {
		checkNoTwin(t, l, i, "another", pathOf(l, i), api.ErrCalm)
		checkNoTwin(t, l, i, "", pathOf(l, i), api.ErrCalm)
		checkNoTwin(t, l, i, l[12-i]+"!", pathOf(l, 12-i), api.ErrCalm)
	}
}

func TestP9LengthOfTheEntries(t *testing.T) {
	d := &dice{14}
	for _, n := range []int{1, 2, 3, 200} {
		for _, i := range []int{0, n - 1} {
			l := longest(n, i, 40)
			path := pathOf(l, i)
			for _, bytes := range []int{2, 39, 40} {
				checkTwin(t, l, i, alike(leafOf(l[i]), bytes, l[i], d), path)
			}
			checkTwin(t, with(l, i, alike(70, 3, "", d)), i, "", path)
			for _, bytes := range []int{41, 42, 1000000} {
				checkNoTwin(t, l, i, alike(leafOf(l[i]), bytes, l[i], d), path, api.ErrCalm)
			}
		}
	}
}

func TestP9TooLong(t *testing.T) {
	d := &dice{15}
	for _, c := range tooLong {
		// Whatever else is wrong, and if nothing else is, the length is named first.
		for _, i := range append([]int{0, len(c.l) - 1, len(c.l)}, strange...) {
			checkNoTwin(t, c.l, i, "x", nil, api.ErrLong)
			checkNoTwin(t, c.l, i, strings.Repeat("z", 41), make([]int, 9), api.ErrLong)
		}
		if len(c.l) <= 201 {
			checkNoTwin(t, c.l, 0, c.l[0], pathOf(c.l, 0), api.ErrLong)
			checkNoTwin(t, c.l, 0, alike(leafOf(c.l[0]), 9, c.l[0], d), pathOf(c.l, 0), api.ErrLong)
		}
	}
}

func TestP9PlaceThatIsNot(t *testing.T) {
	for _, n := range []int{0, 1, 2, 3, 8, 199, 200} {
		l := named(n)
		for _, i := range append([]int{n, n + 1}, strange...) {
			for _, entry := range []string{"x", "", "entry 0", strings.Repeat("z", 41)} {
				for _, path := range [][]int{nil, {0}, make([]int, 8), {-1}} {
					checkNoTwin(t, l, i, entry, path, api.ErrArg)
				}
			}
		}
	}
	for _, i := range []int{-1, 0, 1} {
		checkNoTwin(t, nil, i, "", nil, api.ErrArg)
		checkNoTwin(t, []string{}, i, "", nil, api.ErrArg)
	}
}
