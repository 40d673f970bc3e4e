package lender_test

import (
	"math"
	"testing"

	"lender/api"
	"lender/lender"
)

func TestP11AnEmptyBook(t *testing.T) {
	b := lender.New()
	if b == nil {
		t.Fatal("New gave no book")
	}
	checkBook(t, b, &ledger{})
}

// Every number at its edges with every other one at its own, as the first event and behind another.
func TestP11EventsThatMayBe(t *testing.T) {
	loans := []int{math.MinInt, -64, -1, 0, 1, 62, 63, 64, 65, 128, math.MaxInt}
	kinds := []int{math.MinInt, -2, -1, 0, 1, 2, 3, 4, 256, 1 << 32, math.MaxInt}
	amounts := []int{math.MinInt, -1000000, -1, 0, 1, 2, 999, 1000, 1001, 1002, 99999999, 100000000, 100000001, 1 << 32, math.MaxInt}
	days := []int{math.MinInt, -10000, -1, 0, 1, 9999, 10000, 10001, 1 << 32, math.MaxInt}
	for _, loan := range loans {
		for _, kind := range kinds {
			for _, amount := range amounts {
				for _, day := range days {
					e := ev(loan, kind, amount, day)
					first, g := both(t)
					behind, h := both(t, ev(7, 0, 1, 0))
					x, y := first.Add(e), behind.Add(e)
					if want, same := g.add(e), h.add(e); x != want || y != same {
						t.Fatalf("Add(%+v) = %d, and behind another %d, want %d, %d", e, x, y, want, same)
					}
					if first.Size() != len(g.events) || behind.Size() != len(h.events) {
						t.Fatalf("behind Add(%+v) the sizes are %d, %d, want %d, %d", e, first.Size(), behind.Size(), len(g.events), len(h.events))
					}
				}
			}
		}
	}
}

// The same edges in plain words, without the ledger's bounds.
func TestP11Edges(t *testing.T) {
	for _, c := range []struct {
		e    api.Event
		want api.Errno
	}{
		{ev(-1, 0, 1, 0), api.ErrEvent}, {ev(0, 0, 1, 0), api.OK}, {ev(63, 0, 1, 0), api.OK}, {ev(64, 0, 1, 0), api.ErrEvent},
		{ev(0, -1, 1, 0), api.ErrEvent}, {ev(0, 1, 1, 0), api.OK}, {ev(0, 2, 1, 0), api.OK}, {ev(0, 3, 1, 0), api.ErrEvent},
		{ev(0, 0, -1, 0), api.ErrEvent}, {ev(0, 0, 0, 0), api.ErrEvent}, {ev(0, 0, 100000000, 0), api.OK}, {ev(0, 0, 100000001, 0), api.ErrEvent},
		{ev(0, 1, -1, 0), api.ErrEvent}, {ev(0, 1, 0, 0), api.ErrEvent}, {ev(0, 1, 100000000, 0), api.OK}, {ev(0, 1, 100000001, 0), api.ErrEvent},
		{ev(0, 2, -1, 0), api.ErrEvent}, {ev(0, 2, 0, 0), api.OK}, {ev(0, 2, 1000, 0), api.OK}, {ev(0, 2, 1001, 0), api.ErrEvent},
		{ev(0, 0, 1, -1), api.ErrEvent}, {ev(0, 0, 1, 10000), api.OK}, {ev(0, 0, 1, 10001), api.ErrEvent},
	} {
		b := lender.New()
		if got := b.Add(c.e); got != c.want {
			t.Errorf("Add(%+v) = %d, want %d", c.e, got, c.want)
		}
	}
}

func TestP11Days(t *testing.T) {
	b := lender.New()
	for _, c := range []struct {
		e    api.Event
		want api.Errno
	}{
		{ev(3, 0, 5, 10), api.OK},
		// Below the last event's, of the same loan and of another, and the same day.
		{ev(3, 1, 5, 9), api.ErrDay},
		{ev(4, 1, 5, 9), api.ErrDay},
		{ev(3, 1, 5, 10), api.OK},
		{ev(4, 2, 5, 10), api.OK},
		// Above the last of its own loan, or the first of its loan, but below the last of another.
		{ev(5, 0, 5, 20), api.OK},
		{ev(3, 0, 5, 15), api.ErrDay},
		{ev(6, 0, 5, 0), api.ErrDay},
		// The day of an event that was not taken does not count.
		{ev(6, 0, 0, 9000), api.ErrEvent},
		{ev(6, 0, 5, 10001), api.ErrEvent},
		{ev(64, 0, 5, 9000), api.ErrEvent},
		{ev(6, 3, 5, 9000), api.ErrEvent},
		{ev(6, 0, 5, 19), api.ErrDay},
		{ev(6, 0, 5, 20), api.OK},
		{ev(3, 0, 5, 10000), api.OK},
		{ev(3, 0, 5, 9999), api.ErrDay},
		{ev(9, 0, 5, 10000), api.OK},
	} {
		size := b.Size()
		if got := b.Add(c.e); got != c.want {
			t.Errorf("Add(%+v) = %d, want %d", c.e, got, c.want)
		}
		if c.want == api.OK {
			size++
		}
		if b.Size() != size {
			t.Errorf("behind Add(%+v) the size is %d, want %d", c.e, b.Size(), size)
		}
	}
}

func TestP11AFullBook(t *testing.T) {
	for _, n := range []int{0, 1, 199, 200} {
		b, g := filled(t, n)
		for i := 0; i < 3; i++ {
			checkAdd(t, b, g, ev(i, 0, 1, 500))
		}
		checkAdd(t, b, g, ev(1, 2, 0, 10000))
	}
}

func TestP11WhichErrorComesFirst(t *testing.T) {
	wrong := []api.Event{ev(-1, 0, 1, 300), ev(0, 3, 1, 300), ev(0, 0, 0, 300), ev(0, 0, 1, 10001)}
	early := []api.Event{ev(64, 0, 1, 2), ev(0, -1, 1, 2), ev(0, 1, 0, 2), ev(0, 2, 1001, 2), ev(0, 0, 1, -1), ev(-1, -1, -1, -1)}
	b, _ := filled(t, 199)
	for _, e := range append(wrong, early...) {
		if got := b.Add(e); got != api.ErrEvent {
			t.Errorf("Add(%+v) = %d, want ErrEvent", e, got)
		}
	}
	if got := b.Add(ev(0, 0, 1, 2)); got != api.ErrDay {
		t.Errorf("Add of an event that may be, but not on this day = %d, want ErrDay", got)
	}
	b, _ = filled(t, 200)
	for _, e := range append(append(wrong, early...), ev(0, 0, 1, 2), ev(0, 0, 1, 300)) {
		if got := b.Add(e); got != api.ErrFull {
			t.Errorf("full: Add(%+v) = %d, want ErrFull", e, got)
		}
	}
}

// Events that may not be, and days that may not, among those that are taken: behind each of them the whole book is looked at.
func TestP11WithAnErrorTheBookStays(t *testing.T) {
	d := &dice{11}
	b, g := both(t)
	for day := 0; len(g.events) < 200; {
		e := thrown(d, 8, day)
		switch d.below(6) {
		case 0:
			e.Day -= 1 + d.below(50)
		case 1:
			e.Loan += 64 * (1 - 2*d.below(2))
		case 2:
			e.Kind += 3
		case 3:
			e.Amount *= -d.below(2)
		}
		checkAdd(t, b, g, e)
		if n := len(g.events); n > 0 {
			day = g.events[n-1].Day
		}
	}
	for i := 0; i < 20; i++ {
		checkAdd(t, b, g, thrown(d, 64, d.below(10000)))
	}
}
