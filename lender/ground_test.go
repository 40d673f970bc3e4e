package lender_test

import (
	"fmt"
	"math"
	"strings"
	"testing"

	"lender/api"
	"lender/lender"
)

// P1 and P2 hold for every call: here for all of them at once.

func TestP1EveryCallEnds(t *testing.T) {
	numbers := append([]int{0, 1, 2, 63, 64, 199, 200, 4092}, strange...)
	lists := [][]string{nil, {}, {""}, {"x", "y"}, named(200), named(201), {strings.Repeat("y", 1000000)}, make([]string, 100000)}
	paths := [][]int{nil, {}, {0}, {-1, math.MinInt, math.MaxInt}, make([]int, 8), make([]int, 100000), numbers}
	texts := []string{"", "x", "\xff\x00", strings.Repeat("y", 1000000)}
	for _, s := range texts {
		lender.Sum(s)
	}
	for _, l := range lists {
		lender.Root(l)
		for _, i := range numbers {
			lender.Path(l, i)
			lender.Further(l, i)
			for _, path := range paths {
				for _, s := range texts {
					lender.Twin(l, i, s, path)
				}
			}
		}
		for _, other := range lists {
			for _, path := range paths {
				lender.Twins(l, other, path)
			}
		}
	}
	for _, n := range numbers {
		for _, i := range numbers {
			for _, path := range paths {
				for _, s := range texts {
					lender.Within(n, n, i, s, path)
				}
				lender.Within(0, n, i, "x", path)
				lender.Grows(0, i, 0, n, path)
				lender.Grows(n, i, i, n, path)
			}
		}
	}
}

func TestP1EveryMethodEnds(t *testing.T) {
	for _, size := range []int{0, 9, 199, 200} {
		b, _ := filled(t, size)
		for _, n := range append([]int{0, 1, 2, 63, 64, 199, 200, 4092}, strange...) {
			a := api.Account{Loan: n, Size: n, Log: n, Path: [api.Depth]int{n, n, n, n, n, n}}
			a.State = api.State{Principal: n, Due: n, Rate: n, Day: n, Spare: n, Count: n}
			b.Add(api.Event{Loan: n, Kind: n, Amount: n, Day: n})
			b.State(n)
			b.Account(n)
			b.Lie(a)
			lender.Accepts(n, a)
		}
		b.Size()
		b.Log()
		b.Head()
	}
}

// spareLog and sparePath lay a list into a greater one with marks behind it, and give both.
func spareLog(l []string) ([]string, []string) {
	whole := append(append([]string{}, l...), "mark", "mark", "mark")
	return whole, whole[:len(l)]
}

func sparePath(p []int) ([]int, []int) {
	whole := append(append([]int{}, p...), -7, -7, -7, -7)
	return whole, whole[:len(p)]
}

func TestP2NothingHandedInIsWritten(t *testing.T) {
	for _, n := range []int{0, 1, 2, 3, 7, 8, 13, 128, 200, 201} {
		whole, l := spareLog(named(n))
		before := strings.Join(whole, ",")
		lender.Root(l)
		for i := -1; i <= n; i++ {
			lender.Path(l, i)
			lender.Further(l, i)
			lender.Further(l, i+1)
		}
		if strings.Join(whole, ",") != before {
			t.Errorf("a log of %d entries, or its spare room, was written into", n)
		}
	}
	for _, n := range []int{1, 2, 3, 7, 8, 13, 128, 200} {
		l := named(n)
		for i := range l {
			whole, path := sparePath(pathOf(l, i))
			before := fmt.Sprint(whole)
			if !lender.Within(rootOf(l), n, i, l[i], path) {
				t.Errorf("Within of %d entries at %d", n, i)
			}
			lender.Within(0, n, n-1-i, "x", path)
			lender.Within(0, 200, 0, "x", path)
			lender.Grows(7, i+1, 0, n, path)
			if fmt.Sprint(whole) != before {
				t.Errorf("a path of %d entries, or its spare room, was written into", n)
			}
			whole, path = sparePath(furtherOf(l, i+1))
			before = fmt.Sprint(whole)
			if !lender.Grows(rootOf(l[:i+1]), i+1, rootOf(l), n, path) {
				t.Errorf("Grows from %d to %d entries", i+1, n)
			}
			lender.Grows(0, i+1, 0, n, path)
			lender.Grows(7, 1, 0, 200, path)
			lender.Within(0, n, i, "x", path)
			if fmt.Sprint(whole) != before {
				t.Errorf("a path from %d to %d entries, or its spare room, was written into", i+1, n)
			}
		}
	}
}

// Proofs that are true, false, and turned down: with each of them both calls that give proofs away.
func TestP2NothingToGiveAwayFromIsWritten(t *testing.T) {
	for _, n := range []int{1, 2, 3, 7, 8, 13, 128, 200} {
		for _, i := range []int{0, n / 2, n - 1} {
			wholeB, b := spareLog(named(n))
			for _, entry := range []string{b[i], alike(leafOf(b[i]), 9, b[i], &dice{3}), "another"} {
				wholeA, a := spareLog(with(b[:i+1], i, entry))
				wholePath, path := sparePath(pathOf(b, i))
				wholeFurther, further := sparePath(furtherOf(b, i+1))
				before := fmt.Sprint(wholeA, wholeB, wholePath, wholeFurther)
				lender.Twin(b, i, entry, path)
				lender.Twin(a, i, entry, further)
				lender.Twins(a, b, further)
				lender.Twins(b, a, path)
				lender.Twins(a, a, path[:0])
				if fmt.Sprint(wholeA, wholeB, wholePath, wholeFurther) != before {
					t.Errorf("%d entries, %q at %d: something handed in, or its spare room, was written into", n, entry, i)
				}
			}
		}
	}
}

// spoil writes into a list and into all its spare room.
func spoil(p []int) {
	p = p[:cap(p)]
	for i := range p {
		p[i] = -9
	}
}

// proof gives the paths of a log one by one: first those of its places, then those from its beginnings.
func proof(l []string, i int) []int {
	if i < len(l) {
		path, _ := lender.Path(l, i)
		return path
	}
	path, _ := lender.Further(l, i-len(l)+1)
	return path
}

// proofOf gives what proof should give.
func proofOf(l []string, i int) []int {
	if i < len(l) {
		return pathOf(l, i)
	}
	return furtherOf(l, i-len(l)+1)
}

func TestP2PathsAreTheCallersOwn(t *testing.T) {
	l := named(200)
	var kept [][]int
	for i := 0; i < 2*len(l); i++ {
		kept = append(kept, proof(l, i))
	}
	// Each path is spoilt in turn, the last ones first: those ahead, and the answers to come, stay as they are.
	for i := len(kept) - 1; i >= 0; i-- {
		if fmt.Sprint(kept[i]) != fmt.Sprint(proofOf(l, i)) {
			t.Fatalf("a later call, or writing into a later path, changed path %d", i)
		}
		spoil(kept[i])
		if fmt.Sprint(proof(l, i)) != fmt.Sprint(proofOf(l, i)) {
			t.Fatalf("writing into path %d changed the later answer", i)
		}
	}
}

func TestP2NothingIsKept(t *testing.T) {
	l := named(9)
	path, _ := lender.Path(l, 4)
	further, _ := lender.Further(l, 5)
	root, _ := lender.Root(l)
	l[0], l[8] = "another", "more"
	if got, _ := lender.Root(l); got != rootOf(l) {
		t.Errorf("Root of the changed log = %d, want %d", got, rootOf(l))
	}
	if got, _ := lender.Path(l, 4); fmt.Sprint(got) != fmt.Sprint(pathOf(l, 4)) {
		t.Errorf("Path of the changed log = %v, want %v", got, pathOf(l, 4))
	}
	if got, _ := lender.Further(l, 5); fmt.Sprint(got) != fmt.Sprint(furtherOf(l, 5)) {
		t.Errorf("Further of the changed log = %v, want %v", got, furtherOf(l, 5))
	}
	if root != rootOf(named(9)) || fmt.Sprint(path) != fmt.Sprint(pathOf(named(9), 4)) || fmt.Sprint(further) != fmt.Sprint(furtherOf(named(9), 5)) {
		t.Error("changing the log changed earlier answers")
	}
	if !lender.Within(root, 9, 4, l[4], path) {
		t.Error("changing the log changed what Within answers")
	}
	if !lender.Grows(rootOf(named(5)), 5, root, 9, further) {
		t.Error("changing the log changed what Grows answers")
	}
}

func TestP2TheSameEachTime(t *testing.T) {
	l := entries(100)
	for round := 0; round < 3; round++ {
		for _, n := range []int{100, 1, 57, 2, 100} {
			lender.Root(named(201))
			lender.Path(l, -1)
			lender.Further(l, 0)
			root, _ := lender.Root(l[:n])
			path, _ := lender.Path(l[:n], n-1)
			if root != rootOf(l[:n]) || fmt.Sprint(path) != fmt.Sprint(pathOf(l[:n], n-1)) || !lender.Within(root, n, n-1, l[n-1], path) {
				t.Fatalf("round %d: the answers for %d entries are others", round, n)
			}
			m := (n + 2) / 3
			further, _ := lender.Further(l[:n], m)
			if fmt.Sprint(further) != fmt.Sprint(furtherOf(l[:n], m)) || !lender.Grows(rootOf(l[:m]), m, root, n, further) {
				t.Fatalf("round %d: the answers from %d to %d entries are others", round, m, n)
			}
		}
	}
}

// Which two texts come out is open, but they are the same two each time: with other calls between, from lists of the same content laid elsewhere, and after the lists handed in have changed.
func TestP2TheSameTwoTextsEachTime(t *testing.T) {
	d := &dice{4}
	for _, n := range []int{1, 2, 3, 7, 8, 13, 128, 200} {
		for _, i := range []int{0, n / 2, n - 1} {
			l := entries(n)
			entry := alike(leafOf(l[i]), 9, l[i], d)
			a, path, further := with(l[:i+1], i, entry), pathOf(l, i), furtherOf(l, i+1)
			x, y, _ := lender.Twin(l, i, entry, path)
			one, other, _ := lender.Twins(a, l, further)
			for round := 0; round < 3; round++ {
				lender.Twin(named(n), 0, "cdS", pathOf(named(n), 0))
				lender.Twin(with(l, i, "aa0"), i, "cdS", path)
				lender.Twins(with(l, i, "aa0"), with(l, i, "cdS"), nil)
				lender.Twins(named(201), l, nil)
				l = append([]string{}, l...)
				if x2, y2, err := lender.Twin(l, i, entry, path); x2 != x || y2 != y || err != api.OK {
					t.Fatalf("Twin of %d entries at %d: %q, %q, then %q, %q, %d", n, i, x, y, x2, y2, err)
				}
				if one2, other2, err := lender.Twins(a, l, further); one2 != one || other2 != other || err != api.OK {
					t.Fatalf("Twins of %d and %d entries: %q, %q, then %q, %q, %d", i+1, n, one, other, one2, other2, err)
				}
			}
			l[i] = entry
			checkNoTwin(t, l, i, entry, path, api.ErrCalm)
			checkNoTwins(t, a, l, further, api.ErrCalm)
		}
	}
}
