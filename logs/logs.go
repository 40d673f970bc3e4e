// Package logs: the root of a log, the paths that lead to it, and those that join it with its beginning.
package logs

import (
	"lender/api"
	"lender/sums"
)

// TooLong tells whether a log has too many entries, or one that is too long.
func TooLong(l []string) bool {
	// The number comes first, so that a list of any length is turned down at once.
	if len(l) > api.MaxLog {
		return true
	}
	for i := 0; i < len(l); i++ {
		if len(l[i]) > api.MaxEntry {
			return true
		}
	}
	return false
}

// Cut is where a log of n entries, n above 1, is cut: the greatest power of two below n.
func Cut(n int) int {
	k := 1
	// This asks whether 2k is below n, without a product that could overflow.
	for k < n-k {
		k = k * 2
	}
	return k
}

// Text is the text whose sum is the root of a log.
func Text(l []string) string {
	if len(l) == 0 {
		return ""
	}
	if len(l) == 1 {
		return sums.EntryText(l[0])
	}
	k := Cut(len(l))
	first := Root(l[:k])
	other := Root(l[k:])
	return sums.NodeText(first, other)
}

// Root is the root of a log.
func Root(l []string) int {
	text := Text(l)
	return sums.Sum(text)
}

// Begins tells whether a log is the beginning of another, or all of it.
func Begins(a []string, b []string) bool {
	if len(a) > len(b) {
		return false
	}
	for i := 0; i < len(a); i++ {
		if a[i] != b[i] {
			return false
		}
	}
	return true
}

// Path is the path that leads to the root of a log from its entry i, which is 0 to len(l) - 1.
func Path(l []string, i int) []int {
	if len(l) <= 1 {
		return nil
	}
	k := Cut(len(l))
	if i < k {
		p := Path(l[:k], i)
		other := Root(l[k:])
		return append(p, other)
	}
	p := Path(l[k:], i-k)
	first := Root(l[:k])
	return append(p, first)
}

// Leads is the text whose sum a path leads to for n entries and the place i, which is 0 to n - 1, from the sum of an entry's text; false if it leads nowhere.
func Leads(n int, i int, text string, path []int) (string, bool) {
	if n == 1 && len(path) == 0 {
		return text, true
	}
	if n <= 1 || len(path) == 0 {
		return "", false
	}
	last := len(path) - 1
	p := path[last]
	if !sums.IsSum(p) {
		return "", false
	}
	k := Cut(n)
	if i < k {
		below, ok := Leads(k, i, text, path[:last])
		if !ok {
			return "", false
		}
		x := sums.Sum(below)
		return sums.NodeText(x, p), true
	}
	below, ok := Leads(n-k, i-k, text, path[:last])
	if !ok {
		return "", false
	}
	x := sums.Sum(below)
	return sums.NodeText(p, x), true
}

// Further is the path that joins the first m entries of a log, m being 1 to len(l), with the whole of it; whole tells whether these m are the old log as a whole, whose root the reader knows.
func Further(l []string, m int, whole bool) []int {
	// One entry is never cut, whatever m is: so it ends at every m.
	if m >= len(l) || len(l) <= 1 {
		return known(l, whole)
	}
	k := Cut(len(l))
	if m <= k {
		p := Further(l[:k], m, whole)
		other := Root(l[k:])
		return append(p, other)
	}
	p := Further(l[k:], m-k, false)
	first := Root(l[:k])
	return append(p, first)
}

// known is how the path begins at the part of the log where the old one ends: the reader needs the part's root, unless it is the old root.
func known(l []string, whole bool) []int {
	if whole {
		return nil
	}
	r := Root(l)
	return []int{r}
}

// Joins is what a path joins for m and n, the number old and the flag whole: the sums of the old log and of all of it; false if it joins nothing.
func Joins(m int, n int, old int, whole bool, path []int) (int, int, bool) {
	if m < 1 || m > n {
		return 0, 0, false
	}
	if m == n {
		x, ok := begins(old, whole, path)
		return x, x, ok
	}
	if len(path) == 0 {
		return 0, 0, false
	}
	last := len(path) - 1
	p := path[last]
	if !sums.IsSum(p) {
		return 0, 0, false
	}
	k := Cut(n)
	if m <= k {
		x, y, ok := Joins(m, k, old, whole, path[:last])
		if !ok {
			return 0, 0, false
		}
		return x, sums.Node(y, p), true
	}
	x, y, ok := Joins(m-k, n-k, old, false, path[:last])
	if !ok {
		return 0, 0, false
	}
	before := sums.Node(p, x)
	after := sums.Node(p, y)
	return before, after, true
}

// begins is the sum from which a path goes on, at the part of the log where the old one ends; false if there is none.
func begins(old int, whole bool, path []int) (int, bool) {
	// Every path that joins something comes by here, so old is looked at even where it is not used.
	if !sums.IsSum(old) {
		return 0, false
	}
	if whole && len(path) == 0 {
		return old, true
	}
	if !whole && len(path) == 1 && sums.IsSum(path[0]) {
		return path[0], true
	}
	return 0, false
}
