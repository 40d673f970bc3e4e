// Package twins: two texts that are not the same and have the same sum, where a false proof was taken for a true one.
package twins

import (
	"lender/accounts"
	"lender/api"
	"lender/logs"
	"lender/sums"
)

// OfEntry is the two texts for a path that leads to the root of l from an entry that is not the one at i, which is 0 to len(l) - 1: the first is a text of the check, the second a text of l.
func OfEntry(l []string, i int, entry string, path []int) (string, string) {
	start := sums.EntryText(entry)
	shown, ok := logs.Leads(len(l), i, start, path)
	there := logs.Text(l)
	if !ok || shown != there || len(l) <= 1 || len(path) == 0 {
		return shown, there
	}
	// The texts are the same, so the check and l agree on the root of the part with i too.
	last := len(path) - 1
	k := logs.Cut(len(l))
	if i < k {
		return OfEntry(l[:k], i, entry, path[:last])
	}
	return OfEntry(l[k:], i-k, entry, path[:last])
}

// OfLogs is the two texts for a path that joins the roots of a and b, where a is not the beginning of b: each is a text of the check, of a or of b. whole tells whether a is the old log as a whole.
func OfLogs(a []string, b []string, whole bool, path []int) (string, string) {
	if len(a) >= len(b) || len(path) == 0 {
		return ofRoots(a, b)
	}
	last := len(path) - 1
	p := path[last]
	k := logs.Cut(len(b))
	old := logs.Root(a)
	if len(a) <= k {
		_, y, _ := logs.Joins(len(a), k, old, whole, path[:last])
		shown := sums.NodeText(y, p)
		there := logs.Text(b)
		if shown != there {
			return shown, there
		}
		return OfLogs(a, b[:k], whole, path[:last])
	}
	x, y, _ := logs.Joins(len(a)-k, len(b)-k, old, false, path[:last])
	shown := sums.NodeText(p, x)
	// What goes on behind the cut of b is cut at the same place.
	there := logs.Text(a)
	if shown != there {
		return shown, there
	}
	shown = sums.NodeText(p, y)
	there = logs.Text(b)
	if shown != there {
		return shown, there
	}
	// Ahead of the cut both have the root p, which two logs can have without being the same.
	if !logs.Begins(a[:k], b[:k]) {
		return ofRoots(a[:k], b[:k])
	}
	return OfLogs(a[k:], b[k:], false, path[:last])
}

// ofRoots is the two texts for two logs of one length and one root that are not the same: the first is a text of a, the second a text of b.
func ofRoots(a []string, b []string) (string, string) {
	one := logs.Text(a)
	other := logs.Text(b)
	if one != other || len(a) <= 1 || len(a) != len(b) {
		return one, other
	}
	k := logs.Cut(len(a))
	if !logs.Begins(a[:k], b[:k]) {
		return ofRoots(a[:k], b[:k])
	}
	return ofRoots(a[k:], b[k:])
}

// OfAccount is the two texts for an account that shows what the book's own account of this loan shows, and has another size, log or state: the first is a text of the account, the second a text of the book's.
func OfAccount(a api.Account, own api.Account) (string, string) {
	shown := accounts.Texts(a)
	there := accounts.Texts(own)
	// As long as the texts are the same, so are the sums in them, of the texts below.
	at := accounts.Count - 1
	for at > 0 && shown[at] == there[at] {
		at = at - 1
	}
	return shown[at], there[at]
}
