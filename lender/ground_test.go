package lender_test

import (
	"fmt"
	"math"
	"strings"
	"testing"

	"lender/api"
	"lender/lender"
)

// P1 and P2 hold for every call: here for all of them at once.

func TestP1EveryCallEnds(t *testing.T) {
	numbers := append([]int{0, 1, 2, 63, 64, 199, 200, 4092}, strange...)
	lists := [][]string{nil, {}, {""}, {"x", "y"}, named(200), named(201), {strings.Repeat("y", 1000000)}, make([]string, 100000)}
	paths := [][]int{nil, {}, {0}, {-1, math.MinInt, math.MaxInt}, make([]int, 8), make([]int, 100000), numbers}
	texts := []string{"", "x", "\xff\x00", strings.Repeat("y", 1000000)}
	for _, s := range texts {
		lender.Sum(s)
	}
	for _, l := range lists {
		lender.Root(l)
		for _, i := range numbers {
			lender.Path(l, i)
			lender.Further(l, i)
			lender.Twin(l, i, "x", paths[4])
		}
		for _, path := range paths {
			lender.Twins(l, lists[4], path)
			lender.Twins(lists[4], l, path)
		}
	}
	for _, n := range numbers {
		for _, i := range numbers {
			for _, path := range paths {
				for _, s := range texts {
					lender.Within(n, n, i, s, path)
				}
				lender.Within(0, n, i, "x", path)
				lender.Grows(0, i, 0, n, path)
				lender.Grows(n, i, i, n, path)
			}
		}
	}
}

func TestP1EveryMethodEnds(t *testing.T) {
	b := lender.New()
	for _, n := range append([]int{0, 1, 2, 63, 64, 199, 200, 4092}, strange...) {
		a := api.Account{Loan: n, Size: n, Log: n, Path: [api.Depth]int{n, n, n, n, n, n}}
		a.State = api.State{Principal: n, Due: n, Rate: n, Day: n, Spare: n, Count: n}
		b.Add(api.Event{Loan: n, Kind: n, Amount: n, Day: n})
		b.State(n)
		b.Account(n)
		b.Lie(a)
		lender.Accepts(n, a)
	}
	b.Size()
	b.Log()
	b.Head()
}

// spareLog and sparePath lay a list into a greater one with marks behind it, and give both.
func spareLog(l []string) ([]string, []string) {
	whole := append(append([]string{}, l...), "mark", "mark", "mark")
	return whole, whole[:len(l)]
}

func sparePath(p []int) ([]int, []int) {
	whole := append(append([]int{}, p...), -7, -7, -7, -7)
	return whole, whole[:len(p)]
}

func TestP2NothingHandedInIsWritten(t *testing.T) {
	for _, n := range []int{0, 1, 2, 3, 7, 8, 13, 128, 200, 201} {
		whole, l := spareLog(named(n))
		before := strings.Join(whole, ",")
		lender.Root(l)
		for i := -1; i <= n; i++ {
			lender.Path(l, i)
		}
		if strings.Join(whole, ",") != before {
			t.Errorf("a log of %d entries, or its spare room, was written into", n)
		}
	}
	for _, n := range []int{1, 2, 3, 7, 8, 13, 128, 200} {
		l := named(n)
		for i := range l {
			whole, path := sparePath(pathOf(l, i))
			before := fmt.Sprint(whole)
			if !lender.Within(rootOf(l), n, i, l[i], path) {
				t.Errorf("Within of %d entries at %d", n, i)
			}
			lender.Within(0, n, n-1-i, "x", path)
			lender.Within(0, 200, 0, "x", path)
			if fmt.Sprint(whole) != before {
				t.Errorf("a path of %d entries, or its spare room, was written into", n)
			}
		}
	}
}

// spoil writes into a list and into all its spare room.
func spoil(p []int) {
	p = p[:cap(p)]
	for i := range p {
		p[i] = -9
	}
}

func TestP2PathsAreTheCallersOwn(t *testing.T) {
	l := named(200)
	var kept [][]int
	for i := range l {
		path, _ := lender.Path(l, i)
		kept = append(kept, path)
	}
	// Each path is spoilt in turn, the last ones first: those ahead, and the answers to come, stay as they are.
	for i := len(l) - 1; i >= 0; i-- {
		if fmt.Sprint(kept[i]) != fmt.Sprint(pathOf(l, i)) {
			t.Fatalf("a later call, or writing into a later path, changed the path at %d", i)
		}
		spoil(kept[i])
		again, _ := lender.Path(l, i)
		if fmt.Sprint(again) != fmt.Sprint(pathOf(l, i)) {
			t.Fatalf("writing into the path at %d changed the later answer", i)
		}
	}
}

func TestP2NothingIsKept(t *testing.T) {
	l := named(9)
	path, _ := lender.Path(l, 4)
	root, _ := lender.Root(l)
	l[0], l[8] = "another", "more"
	if got, _ := lender.Root(l); got != rootOf(l) {
		t.Errorf("Root of the changed log = %d, want %d", got, rootOf(l))
	}
	if got, _ := lender.Path(l, 4); fmt.Sprint(got) != fmt.Sprint(pathOf(l, 4)) {
		t.Errorf("Path of the changed log = %v, want %v", got, pathOf(l, 4))
	}
	if root != rootOf(named(9)) || fmt.Sprint(path) != fmt.Sprint(pathOf(named(9), 4)) {
		t.Error("changing the log changed earlier answers")
	}
	if !lender.Within(root, 9, 4, l[4], path) {
		t.Error("changing the log changed what Within answers")
	}
}

func TestP2TheSameEachTime(t *testing.T) {
	l := entries(100)
	for round := 0; round < 3; round++ {
		for _, n := range []int{100, 1, 57, 2, 100} {
			lender.Root(named(201))
			lender.Path(l, -1)
			root, _ := lender.Root(l[:n])
			path, _ := lender.Path(l[:n], n-1)
			if root != rootOf(l[:n]) || fmt.Sprint(path) != fmt.Sprint(pathOf(l[:n], n-1)) || !lender.Within(root, n, n-1, l[n-1], path) {
				t.Fatalf("round %d: the answers for %d entries are others", round, n)
			}
		}
	}
}
