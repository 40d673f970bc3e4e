package lender_test

import (
	"fmt"
	"math"
	"strings"
	"testing"

	"lender/api"
	"lender/lender"
)

var strange = []int{math.MinInt, math.MinInt + 1, -1 << 32, -4093, -201, -1, 201, 4093, 65536, 1 << 32, 1 << 62, math.MaxInt - 1, math.MaxInt}

func TestP3Sum(t *testing.T) {
	every := make([]byte, 256)
	for i := range every {
		every[i] = byte(i)
	}
	for _, c := range []struct {
		text string
		want int
	}{
		{"", 0}, {"a", 98}, {"ab", 1315}, {"\x00", 1}, {"\xff", 256}, {"Ex", 2159}, {"é€", 2397}, {"\xc3", 196},
		{string(every), 3398}, {strings.Repeat(string(every), 100), 388}, {strings.Repeat("a", 1000000), 1992},
	} {
		if got := lender.Sum(c.text); got != c.want {
			t.Errorf("Sum of %d bytes, %.10q = %d, want %d", len(c.text), c.text, got, c.want)
		}
	}
}

func TestP3SumOfShortTexts(t *testing.T) {
	for a := 0; a < 256; a++ {
		for b := 0; b < 256; b++ {
			text := string([]byte{byte(a), byte(b)})
			if got := lender.Sum(text); got != sumOf(text) {
				t.Fatalf("Sum(%q) = %d, want %d", text, got, sumOf(text))
			}
		}
	}
	for n := 0; n < 300; n++ {
		text := strings.Repeat("\x00\xff\x7f", n)[n:]
		if got := lender.Sum(text); got != sumOf(text) {
			t.Fatalf("Sum of %d bytes = %d, want %d", len(text), got, sumOf(text))
		}
	}
}

func TestP4RootExamples(t *testing.T) {
	for _, c := range []struct {
		l    []string
		want int
	}{
		{nil, 0}, {[]string{}, 0}, {[]string{""}, 70}, {[]string{"", ""}, 469},
		{[]string{"x"}, 2159}, {[]string{"x", "y"}, 2443}, {[]string{"x", "y", "z"}, 1239},
		{named(5), 1833}, {named(7), 2618}, {named(8), 699}, {named(64), 3269}, {named(65), 1129}, {named(100), 2436},
		{named(127), 1578}, {named(128), 3310}, {named(129), 3194}, {named(199), 3808}, {named(200), 1888},
	} {
		if got, err := lender.Root(c.l); got != c.want || err != api.OK {
			t.Errorf("Root of %d entries = %d, %d, want %d", len(c.l), got, err, c.want)
		}
	}
}

func TestP4RootOfEveryLength(t *testing.T) {
	l := entries(200)
	for n := 0; n <= 200; n++ {
		if got, err := lender.Root(l[:n]); got != rootOf(l[:n]) || err != api.OK {
			t.Errorf("Root of %d entries = %d, %d, want %d", n, got, err, rootOf(l[:n]))
		}
	}
}

// longest gives a log of n entries with a text of so many bytes at a place.
func longest(n, place, bytes int) []string {
	l := named(n)
	l[place] = strings.Repeat("y", bytes)
	return l
}

// tooLong: logs that may not be, each for what is told of it.
var tooLong = []struct {
	what string
	l    []string
}{
	{"201 entries", named(201)}, {"201 empty entries", make([]string, 201)}, {"a million entries", make([]string, 1000000)},
	{"41 bytes alone", longest(1, 0, 41)}, {"41 bytes ahead", longest(9, 0, 41)}, {"41 bytes amid", longest(9, 4, 41)},
	{"41 bytes at the end", longest(9, 8, 41)}, {"41 bytes at the end of 200", longest(200, 199, 41)},
	{"an entry of a million bytes", longest(3, 1, 1000000)}, {"201 entries and 41 bytes", longest(201, 0, 41)},
}

func TestP4P5TooLong(t *testing.T) {
	for _, c := range tooLong {
		if got, err := lender.Root(c.l); got != 0 || err != api.ErrLong {
			t.Errorf("%s: Root = %d, %d", c.what, got, err)
		}
		// Where the place is wrong as well, the length is named first.
		for _, i := range append([]int{0, len(c.l) - 1, len(c.l)}, strange...) {
			if got, err := lender.Path(c.l, i); got != nil || err != api.ErrLong {
				t.Errorf("%s: Path at %d = %v, %d", c.what, i, got, err)
			}
		}
	}
}

func TestP4P5LongestThatMayBe(t *testing.T) {
	for _, l := range [][]string{longest(1, 0, 40), longest(9, 0, 40), longest(9, 8, 40), longest(200, 199, 40), make([]string, 200)} {
		if got, err := lender.Root(l); got != rootOf(l) || err != api.OK {
			t.Errorf("Root of %d entries = %d, %d, want %d", len(l), got, err, rootOf(l))
		}
		if got, err := lender.Path(l, 0); fmt.Sprint(got) != fmt.Sprint(pathOf(l, 0)) || err != api.OK {
			t.Errorf("Path of %d entries = %v, %d, want %v", len(l), got, err, pathOf(l, 0))
		}
	}
	// 40 counts bytes, not characters.
	if _, err := lender.Root([]string{strings.Repeat("é", 21)}); err != api.ErrLong {
		t.Errorf("Root of an entry of 42 bytes: %d", err)
	}
}

func TestP5PathExamples(t *testing.T) {
	three := []string{"x", "y", "z"}
	for _, c := range []struct {
		l    []string
		i    int
		want []int
	}{
		{[]string{"x"}, 0, []int{}}, {three, 0, []int{2160, 2161}}, {three, 1, []int{2159, 2161}}, {three, 2, []int{2443}},
		{named(200), 0, []int{1446, 4015, 1398, 964, 1238, 3280, 3779, 824}},
		{named(200), 127, []int{3015, 415, 3063, 1625, 3595, 1710, 3269, 824}},
		{named(200), 128, []int{3018, 3165, 41, 619, 1038, 1797, 2419, 3310}},
		{named(200), 192, []int{760, 2967, 1534, 1877, 3310}},
		{named(200), 199, []int{765, 3710, 1337, 1877, 3310}},
	} {
		if got, err := lender.Path(c.l, c.i); fmt.Sprint(got) != fmt.Sprint(c.want) || err != api.OK {
			t.Errorf("Path of %d entries at %d = %v, %d, want %v", len(c.l), c.i, got, err, c.want)
		}
	}
}

func TestP5P6PathOfEveryPlace(t *testing.T) {
	all := entries(200)
	for n := 1; n <= 200; n++ {
		l, root := all[:n], rootOf(all[:n])
		for i := 0; i < n; i++ {
			got, err := lender.Path(l, i)
			if want := pathOf(l, i); fmt.Sprint(got) != fmt.Sprint(want) || err != api.OK {
				t.Fatalf("Path of %d entries at %d = %v, %d, want %v", n, i, got, err, want)
			}
			if !lender.Within(root, n, i, l[i], got) {
				t.Fatalf("Within turns the path of %d entries at %d down", n, i)
			}
		}
	}
}

func TestP5PlaceThatIsNot(t *testing.T) {
	for _, n := range []int{0, 1, 2, 3, 8, 199, 200} {
		for _, i := range append([]int{n, n + 1}, strange...) {
			if got, err := lender.Path(named(n), i); got != nil || err != api.ErrArg {
				t.Errorf("Path of %d entries at %d = %v, %d", n, i, got, err)
			}
		}
	}
	if got, err := lender.Path(nil, 0); got != nil || err != api.ErrArg {
		t.Errorf("Path of no entries = %v, %d", got, err)
	}
}

// nowhere tells whether Within is false for whatever root.
func nowhere(n, i int, entry string, path []int) bool {
	for root := -1; root <= 4093; root++ {
		if lender.Within(root, n, i, entry, path) {
			return false
		}
	}
	for _, root := range strange {
		if lender.Within(root, n, i, entry, path) {
			return false
		}
	}
	return true
}

func TestP6PathsTooShortOrTooLong(t *testing.T) {
	for _, n := range []int{1, 2, 3, 4, 5, 7, 8, 9, 65, 129, 199, 200} {
		l := named(n)
		for _, i := range []int{0, n / 2, n - 1} {
			path := pathOf(l, i)
			for _, p := range []int{0, 1, 4092} {
				more, ahead := append(append([]int{}, path...), p), append([]int{p}, path...)
				if !nowhere(n, i, l[i], more) || !nowhere(n, i, l[i], ahead) {
					t.Errorf("a path of %d entries at %d with %d besides leads somewhere", n, i, p)
				}
			}
			if n > 1 && !(nowhere(n, i, l[i], path[1:]) && nowhere(n, i, l[i], path[:len(path)-1]) && nowhere(n, i, l[i], nil)) {
				t.Errorf("a path of %d entries at %d that is too short leads somewhere", n, i)
			}
		}
	}
	if !nowhere(200, 0, "x", make([]int, 1000000)) || !nowhere(1, 0, "x", make([]int, 1000000)) {
		t.Error("a path of a million numbers leads somewhere")
	}
}

func TestP6NumbersOfThePath(t *testing.T) {
	for _, c := range []struct{ n, i, numbers int }{{2, 0, 1}, {2, 1, 1}, {3, 2, 1}, {7, 5, 3}, {200, 0, 8}, {200, 199, 5}} {
		for at := 0; at < c.numbers; at++ {
			path := make([]int, c.numbers)
			for _, p := range []int{0, 1, 255, 256, 4091, 4092} {
				path[at] = p
				root, ok := leadsOf(c.n, c.i, leafOf("x"), path)
				if !ok || !lender.Within(root, c.n, c.i, "x", path) {
					t.Errorf("%d entries, place %d: the path %v is turned down", c.n, c.i, path)
				}
			}
			for _, p := range append([]int{4093, 4094, -2, 4093 + 65536, 65535}, strange...) {
				if p >= 0 && p <= 4092 {
					continue
				}
				path[at] = p
				if !nowhere(c.n, c.i, "x", path) {
					t.Errorf("%d entries, place %d: the path %v leads somewhere", c.n, c.i, path)
				}
			}
		}
	}
}

func TestP6NumbersThatMayNotBe(t *testing.T) {
	one := leafOf("x")
	for _, n := range append([]int{0}, strange...) {
		for _, i := range []int{0, 1, n - 1, n} {
			for _, path := range [][]int{nil, {0}, make([]int, 8), make([]int, 63)} {
				if !nowhere(n, i, "x", path) {
					t.Errorf("Within of %d entries at %d with %d numbers", n, i, len(path))
				}
			}
		}
	}
	for _, n := range []int{1, 2, 3, 200} {
		path := pathOf(named(n), n-1)
		for _, i := range append([]int{n, n + 1}, strange...) {
			if !nowhere(n, i, named(n)[n-1], path) || !nowhere(n, i, "entry 0", pathOf(named(n), 0)) {
				t.Errorf("Within of %d entries at %d", n, i)
			}
		}
	}
	for _, root := range append([]int{one - 1, one + 1, one + 4093, one - 4093, one + 65536, 0}, strange...) {
		if lender.Within(root, 1, 0, "x", nil) {
			t.Errorf("Within takes %d for the root %d", root, one)
		}
	}
}

func TestP6LengthOfTheEntry(t *testing.T) {
	for bytes, want := range map[int]bool{0: true, 1: true, 39: true, 40: true, 41: false, 42: false, 1000000: false} {
		entry := strings.Repeat("y", bytes)
		if lender.Within(leafOf(entry), 1, 0, entry, nil) != want {
			t.Errorf("Within of an entry of %d bytes is not %v", bytes, want)
		}
		if lender.Within(nodeOf(7, leafOf(entry)), 2, 1, entry, []int{7}) != want {
			t.Errorf("Within of an entry of %d bytes beside another is not %v", bytes, want)
		}
	}
}

// A path needs no log behind it: any numbers of the right count lead somewhere.
func TestP6AnyPath(t *testing.T) {
	d := &dice{1}
	led := 0
	for n := 1; n <= 200; n++ {
		for i := 0; i < n; i++ {
			for long := 0; long <= 9; long++ {
				path := make([]int, long)
				for j := range path {
					path[j] = d.below(4093)
				}
				root, ok := leadsOf(n, i, leafOf("x"), path)
				if ok {
					led++
				}
				if lender.Within(root, n, i, "x", path) != ok {
					t.Fatalf("Within(%d, %d, %d, x, %v) is not %v", root, n, i, path, ok)
				}
				if lender.Within((root+1)%4093, n, i, "x", path) {
					t.Fatalf("Within(%d, %d, %d, x, %v) is true", (root+1)%4093, n, i, path)
				}
			}
		}
	}
	if led != 200*201/2 {
		t.Errorf("%d paths led somewhere, want one for each place", led)
	}
}

func TestP6AnotherEntryOrPlace(t *testing.T) {
	l := named(13)
	root := rootOf(l)
	for i := range l {
		path := pathOf(l, i)
		for j := range l {
			x, ok := leadsOf(13, j, leafOf(l[i]), path)
			if lender.Within(root, 13, j, l[i], path) != (ok && x == root) {
				t.Errorf("the path of place %d at place %d", i, j)
			}
			if lender.Within(root, 13, i, l[j], path) != (leafOf(l[i]) == leafOf(l[j])) {
				t.Errorf("the path of place %d with entry %d", i, j)
			}
		}
	}
}
