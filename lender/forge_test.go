package lender_test

import "lender/api"

// False proofs and accounts that the checks take, for the tests of what gives them away.

// alike gives an entry of so many bytes, 2 or more, whose text has a sum, and which is not another one.
func alike(sum, bytes int, other string, d *dice) string {
	for {
		b := make([]byte, bytes-1, bytes)
		for j := range b {
			b[j] = byte(d.below(256))
		}
		ahead := leafOf(string(b))
		last := ((sum-ahead*263-1)%4093 + 4093) % 4093
		if last < 256 && string(b)+string([]byte{byte(last)}) != other {
			return string(b) + string([]byte{byte(last)})
		}
	}
}

// with gives a log with another entry at a place.
func with(l []string, i int, entry string) []string {
	l = append([]string{}, l...)
	l[i] = entry
	return l
}

// mended gives a log with such an entry at i that the log has this root; false if none gives it.
func mended(l []string, i, root int, d *dice) ([]string, bool) {
	path := pathOf(l, i)
	for sum := 0; sum < 4093; sum++ {
		if x, _ := leadsOf(len(l), i, sum, path); x == root {
			return with(l, i, alike(sum, 2+d.below(39), l[i], d)), true
		}
	}
	return nil, false
}

// forgedPath gives a path of an entry to the root of l with numbers that no parts have, up to the number at; those above it are true. False if no number at this place makes up for the others.
func forgedPath(l []string, i int, entry string, at int, d *dice) ([]int, bool) {
	root, path := rootOf(l), pathOf(l, i)
	truth := path[at]
	for j := 0; j < at; j++ {
		path[j] = d.below(4093)
	}
	for path[at] = 0; path[at] < 4093; path[at]++ {
		if x, _ := leadsOf(len(l), i, leafOf(entry), path); x == root && path[at] != truth {
			return path, true
		}
	}
	return nil, false
}

// oldOf tells of each number of a path from m to n entries, m below n, whether it stands for a part of the old log.
func oldOf(m, n int) []bool {
	var old []bool
	at, last := m-1, n-1
	for at%2 == 1 {
		at, last = at/2, last/2
	}
	if at > 0 {
		old = append(old, true)
	}
	for at, last = upOf(at, last); last > 0; at, last = upOf(at/2, last/2) {
		old = append(old, at%2 == 1)
	}
	return old
}

// forgedJoin gives a path that joins the roots of a and b with numbers that no parts have, ahead of the number at; from it on they are true of b. False if none was found.
func forgedJoin(a, b []string, at int, d *dice) ([]int, bool) {
	old, root, path := rootOf(a), rootOf(b), furtherOf(b, len(a))
	// The last number for the old log makes up for what it sums up to, then the last other one for the whole.
	first, second := -1, -1
	for j, o := range oldOf(len(a), len(b))[:at] {
		path[j] = d.below(4093)
		if o {
			first = j
		} else {
			second = j
		}
	}
	right := func(whole bool) bool {
		x, y, _ := joinsOf(len(a), len(b), old, path)
		return x == old && (!whole || y == root)
	}
	if !solved(path, first, func() bool { return right(false) }) || !solved(path, second, func() bool { return right(true) }) {
		return nil, false
	}
	return path, true
}

// solved looks for a number at a place of a path by which something holds; without a place, for whether it holds.
func solved(path []int, place int, holds func() bool) bool {
	if place < 0 {
		return holds()
	}
	for path[place] = 0; path[place] < 4093; path[place]++ {
		if holds() {
			return true
		}
	}
	return false
}

// anyState gives a state, whether or not events can lead to it.
func anyState(d *dice) api.State {
	return api.State{Principal: d.below(1000), Due: d.below(100000), Rate: d.below(2000), Day: d.below(20000), Spare: d.below(10000000), Count: d.below(300)}
}

// alikeState gives a state whose text has a sum, and which is not another one.
func alikeState(sum int, other api.State, d *dice) api.State {
	for {
		if s := anyState(d); s != other && sumOf(stateTextOf(s)) == sum {
			return s
		}
	}
}

// alikeNumber gives another number whose two bytes have the same sum, so that a text with them at the same place has it too; false if there is none.
func alikeNumber(n int) (int, bool) {
	sum := sumOf(numbersText("", n))
	for other := 0; other < 4093; other++ {
		if other != n && sumOf(numbersText("", other)) == sum {
			return other, true
		}
	}
	return 0, false
}

// settled looks for a number of an account, other than it is, by which the account shows a top; it looks from anywhere on, so as not to find the least ones alone.
func settled(a *api.Account, number *int, top int, d *dice) bool {
	truth, from := *number, d.below(4093)
	for i := 0; i < 4093; i++ {
		*number = (from + i) % 4093
		if *number != truth && showsOf(*a) == top {
			return true
		}
	}
	return false
}

// forgedAccount gives an account of a loan with another state that shows a book's top, with numbers beside it that no loans have up to the depth at; those above it are true. At 6 it is the root of the log that makes up for the others, at 7 it does so for another size too. False if none does.
func forgedAccount(g *ledger, loan, at int, d *dice) (api.Account, bool) {
	a, top := g.account(loan), g.head().Top
	a.State = anyState(d)
	for j := 0; j < at && j < 6; j++ {
		a.Path[j] = d.below(4093)
	}
	number := &a.Log
	if at < 6 {
		number = &a.Path[at]
	}
	if at == 7 {
		a.Size = (a.Size + 1 + d.below(200)) % 201
	}
	ok := settled(&a, number, top, d)
	return a, ok
}
