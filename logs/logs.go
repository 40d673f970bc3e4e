// Package logs: the root of a log, and the paths that lead to it.
package logs

import (
	"lender/api"
	"lender/sums"
)

// TooLong tells whether a log has too many entries, or one that is too long.
func TooLong(l []string) bool {
	// The number comes first, so that a list of any length is turned down at once.
	if len(l) > api.MaxLog {
		return true
	}
	for i := 0; i < len(l); i++ {
		if len(l[i]) > api.MaxEntry {
			return true
		}
	}
	return false
}

// Cut is where a log of n entries, n above 1, is cut: the greatest power of two below n.
func Cut(n int) int {
	k := 1
	// This asks whether 2k is below n, without a product that could overflow.
	for k < n-k {
		k = k * 2
	}
	return k
}

// Root is the root of a log.
func Root(l []string) int {
	if len(l) == 0 {
		return sums.Sum("")
	}
	if len(l) == 1 {
		return sums.Entry(l[0])
	}
	k := Cut(len(l))
	first := Root(l[:k])
	other := Root(l[k:])
	return sums.Node(first, other)
}

// Path is the path that leads to the root of a log from its entry i, which is 0 to len(l) - 1.
func Path(l []string, i int) []int {
	if len(l) <= 1 {
		return nil
	}
	k := Cut(len(l))
	if i < k {
		p := Path(l[:k], i)
		other := Root(l[k:])
		return append(p, other)
	}
	p := Path(l[k:], i-k)
	first := Root(l[:k])
	return append(p, first)
}

// Leads is what a path leads to for n entries, the place i, which is 0 to n - 1, and the sum s; false if it leads nowhere.
func Leads(n int, i int, s int, path []int) (int, bool) {
	if n == 1 && len(path) == 0 {
		return s, true
	}
	if n <= 1 || len(path) == 0 {
		return 0, false
	}
	last := len(path) - 1
	p := path[last]
	if !sums.IsSum(p) {
		return 0, false
	}
	k := Cut(n)
	if i < k {
		x, ok := Leads(k, i, s, path[:last])
		if !ok {
			return 0, false
		}
		return sums.Node(x, p), true
	}
	x, ok := Leads(n-k, i-k, s, path[:last])
	if !ok {
		return 0, false
	}
	return sums.Node(p, x), true
}
