package lender_test

import (
	"fmt"
	"testing"

	"lender/api"
	"lender/lender"
)

func TestP13Entries(t *testing.T) {
	for _, c := range []struct {
		e    api.Event
		want string
	}{
		{ev(5, 1, 7, 3), "5 1 7 3"}, {ev(0, 0, 1, 0), "0 0 1 0"}, {ev(0, 2, 0, 0), "0 2 0 0"}, {ev(10, 2, 10, 10), "10 2 10 10"},
		{ev(63, 0, 100000000, 10000), "63 0 100000000 10000"}, {ev(63, 1, 99999999, 9999), "63 1 99999999 9999"}, {ev(9, 2, 1000, 100), "9 2 1000 100"},
	} {
		b, g := both(t, ev(1, 0, 2, 0), c.e, ev(1, 0, 2, 10000))
		if l := b.Log(); len(l) != 3 || l[0] != "1 0 2 0" || l[1] != c.want || l[2] != "1 0 2 10000" {
			t.Errorf("the entry of %+v: the log is %q, want %q in the middle", c.e, l, c.want)
		}
		checkBook(t, b, g)
	}
}

// Heads that were reckoned once and for all, outside the program and its tests.
func TestP13HeadExamples(t *testing.T) {
	for _, c := range []struct {
		events []api.Event
		want   api.Head
	}{
		{nil, api.Head{Size: 0, Log: 0, Map: 3514, Top: 2895}},
		{[]api.Event{ev(0, 0, 1, 0)}, api.Head{Size: 1, Log: 165, Map: 2297, Top: 2892}},
		{[]api.Event{ev(63, 0, 100000000, 10000)}, api.Head{Size: 1, Log: 3234, Map: 43, Top: 2785}},
		{[]api.Event{ev(5, 1, 7, 3)}, api.Head{Size: 1, Log: 163, Map: 1686, Top: 1194}},
		{[]api.Event{ev(0, 0, 100, 0), ev(0, 2, 500, 0), ev(0, 1, 60, 10)}, api.Head{Size: 3, Log: 3125, Map: 2574, Top: 2402}},
		{[]api.Event{ev(0, 0, 100, 0), ev(0, 2, 500, 0), ev(0, 1, 60, 10), ev(0, 0, 9, 12)}, api.Head{Size: 4, Log: 2323, Map: 1209, Top: 214}},
		{[]api.Event{ev(1, 0, 50, 1), ev(2, 0, 60, 1), ev(33, 2, 7, 2), ev(33, 0, 1000, 3), ev(1, 1, 70, 4), ev(33, 1, 2, 1000), ev(62, 2, 0, 1000)}, api.Head{Size: 7, Log: 668, Map: 3153, Top: 1814}},
	} {
		b, _ := both(t, c.events...)
		if got := b.Head(); got != c.want {
			t.Errorf("behind %v the head is %+v, want %+v", c.events, got, c.want)
		}
	}
}

// One event of one loan, for each loan: so each place in the tree over the loans is looked at alone.
func TestP13EachLoan(t *testing.T) {
	for loan := 0; loan < 64; loan++ {
		for _, e := range []api.Event{ev(loan, 0, 100, 9), ev(loan, 1, 100, 9), ev(loan, 2, 100, 9)} {
			b, g := both(t, e)
			checkBook(t, b, g)
		}
	}
}

func TestP13EachLength(t *testing.T) {
	for n := 0; n <= 200; n++ {
		b, g := filled(t, n)
		checkBook(t, b, g)
		h := b.Head()
		if root, err := lender.Root(b.Log()); h.Log != root || err != api.OK {
			t.Errorf("behind %d events the head's log is %d, but the root of Log %d, %d", n, h.Log, root, err)
		}
		if h.Size != n {
			t.Errorf("behind %d events the head's size is %d", n, h.Size)
		}
	}
}

// Events of two loans on one day in either order bring about the same states, but not the same log.
func TestP13TheOrderIsInTheLog(t *testing.T) {
	x, y := ev(3, 0, 5, 7), ev(40, 1, 8, 7)
	one, g := both(t, x, y)
	other, h := both(t, y, x)
	checkBook(t, one, g)
	checkBook(t, other, h)
	if a, b := one.Head(), other.Head(); a.Map != b.Map || a.Log == b.Log || a.Top == b.Top {
		t.Errorf("the heads are %+v and %+v, want the same Map alone", a, b)
	}
}

// What the log of a book is for: its entries and its growth can be shown to who knows the heads.
func TestP13ProofsFromABook(t *testing.T) {
	b := lender.New()
	var heads []api.Head
	for i := 0; i < 60; i++ {
		b.Add(ev(i%7, i%3, 3+i, i))
		heads = append(heads, b.Head())
		l, h := b.Log(), heads[i]
		for j := 0; j <= i; j++ {
			path, err := lender.Path(l, j)
			if err != api.OK || !lender.Within(h.Log, h.Size, j, fmt.Sprintf("%d %d %d %d", j%7, j%3, 3+j, j), path) {
				t.Fatalf("event %d is not shown to be in a book of %d", j, i+1)
			}
			further, err := lender.Further(l, j+1)
			if err != api.OK || !lender.Grows(heads[j].Log, heads[j].Size, h.Log, h.Size, further) {
				t.Fatalf("a book of %d is not shown to go on from its first %d", i+1, j+1)
			}
		}
	}
}
