package lender_test

import (
	"math"
	"testing"

	"lender/api"
	"lender/lender"
)

// What is lent, paid and agreed, all of loan 0 if not said otherwise, and the state behind it reckoned by hand.
func TestP12Examples(t *testing.T) {
	for _, c := range []struct {
		what   string
		events []api.Event
		want   api.State
	}{
		{"nothing", nil, api.State{}},
		{"another loan's event", []api.Event{ev(1, 0, 5, 5)}, api.State{}},
		{"the document's first", []api.Event{ev(0, 0, 100, 0), ev(0, 2, 500, 0), ev(0, 1, 60, 10)}, api.State{Principal: 41, Rate: 500, Day: 10, Spare: 500000, Count: 3}},
		{"the document's second", []api.Event{ev(0, 0, 100, 0), ev(0, 2, 500, 0), ev(0, 1, 60, 10), ev(0, 0, 9, 12)}, api.State{Principal: 50, Rate: 500, Day: 12, Spare: 459000, Count: 4}},
		{"the document's third", []api.Event{ev(0, 1, 7, 3)}, api.State{Day: 3, Spare: 7000000, Count: 1}},
		{"the rate goes on from the day it is agreed", []api.Event{ev(0, 0, 10, 2), ev(0, 2, 3, 5), ev(0, 2, 7, 9)}, api.State{Principal: 10, Due: 10 * 3 * 4, Rate: 7, Day: 9, Count: 3}},
		{"what is lent is due for from its day", []api.Event{ev(0, 2, 3, 1), ev(0, 0, 10, 4), ev(0, 0, 20, 6), ev(0, 2, 0, 7)}, api.State{Principal: 30, Due: 10*3*2 + 30*3*1, Day: 7, Count: 4}},
		{"nothing is due for no day", []api.Event{ev(0, 0, 10, 4), ev(0, 2, 1000, 4), ev(0, 0, 10, 4), ev(0, 2, 5, 4)}, api.State{Principal: 20, Rate: 5, Day: 4, Count: 4}},
		{"other loans' events between", []api.Event{ev(0, 0, 10, 0), ev(1, 2, 9, 0), ev(0, 2, 5, 1), ev(2, 1, 99, 3), ev(1, 0, 9, 3), ev(0, 2, 5, 5), ev(63, 0, 1, 9)}, api.State{Principal: 10, Due: 10 * 5 * 4, Rate: 5, Day: 5, Count: 3}},
		{"less paid than is due", []api.Event{ev(0, 0, 1000, 0), ev(0, 2, 1000, 0), ev(0, 1, 4, 5)}, api.State{Principal: 1000, Due: 1000000, Rate: 1000, Day: 5, Count: 3}},
		{"as much paid as is due", []api.Event{ev(0, 0, 1000, 0), ev(0, 2, 1000, 0), ev(0, 1, 5, 5)}, api.State{Principal: 1000, Rate: 1000, Day: 5, Count: 3}},
		{"one more paid than is due", []api.Event{ev(0, 0, 1000, 0), ev(0, 2, 1000, 0), ev(0, 1, 6, 5)}, api.State{Principal: 999, Rate: 1000, Day: 5, Count: 3}},
		{"all paid", []api.Event{ev(0, 0, 1000, 0), ev(0, 2, 1000, 0), ev(0, 1, 1005, 5)}, api.State{Rate: 1000, Day: 5, Count: 3}},
		{"more than all paid", []api.Event{ev(0, 0, 1000, 0), ev(0, 2, 1000, 0), ev(0, 1, 1007, 5)}, api.State{Rate: 1000, Day: 5, Spare: 2000000, Count: 3}},
		{"all but a millionth of a unit", []api.Event{ev(0, 0, 1, 0), ev(0, 2, 1, 0), ev(0, 1, 1, 1)}, api.State{Principal: 1, Rate: 1, Day: 1, Spare: 999999, Count: 3}},
		{"what is spare is used at a later Rate", []api.Event{ev(0, 0, 1, 0), ev(0, 2, 1, 0), ev(0, 1, 1, 1), ev(0, 2, 0, 4)}, api.State{Principal: 1, Day: 4, Spare: 999996, Count: 4}},
		{"for what is due all of it", []api.Event{ev(0, 0, 1, 0), ev(0, 2, 1000, 0), ev(0, 1, 1, 1), ev(0, 2, 0, 1001)}, api.State{Principal: 1, Due: 1000, Day: 1001, Count: 4}},
		{"at a later Lend, all of it", []api.Event{ev(0, 1, 30, 0), ev(0, 0, 100, 1)}, api.State{Principal: 70, Day: 1, Count: 2}},
		{"just all of it", []api.Event{ev(0, 1, 30, 0), ev(0, 0, 30, 1)}, api.State{Day: 1, Count: 2}},
		{"some of it", []api.Event{ev(0, 1, 30, 0), ev(0, 0, 10, 1)}, api.State{Day: 1, Spare: 20000000, Count: 2}},
		{"no whole number of millions of it", []api.Event{ev(0, 0, 3, 0), ev(0, 2, 10, 0), ev(0, 1, 5, 1), ev(0, 0, 4, 2)}, api.State{Principal: 3, Rate: 10, Day: 2, Spare: 999970, Count: 4}},
		{"two parts make a whole", []api.Event{ev(0, 0, 2, 0), ev(0, 2, 250, 0), ev(0, 1, 1, 1000), ev(0, 2, 0, 1000), ev(0, 1, 1, 1001)}, api.State{Principal: 1, Day: 1001, Spare: 500000, Count: 5}},
		{"what is spare is no principal", []api.Event{ev(0, 1, 50, 0), ev(0, 2, 1000, 0), ev(0, 2, 1000, 100)}, api.State{Rate: 1000, Day: 100, Spare: 50000000, Count: 3}},
	} {
		b, g := both(t, c.events...)
		if got, err := b.State(0); got != c.want || err != api.OK {
			t.Errorf("%s: behind %v the state is %+v, %d, want %+v", c.what, c.events, got, err, c.want)
		}
		checkBook(t, b, g)
	}
}

func TestP12TheGreatest(t *testing.T) {
	most := func(lent int, behind ...api.Event) []api.Event {
		var events []api.Event
		for i := 0; i < lent; i++ {
			events = append(events, ev(63, 0, 100000000, 0))
		}
		return append(append(events, ev(63, 2, 1000, 0)), behind...)
	}
	var paid []api.Event
	for i := 0; i < 200; i++ {
		paid = append(paid, ev(63, 1, 100000000, 10000))
	}
	for _, c := range []struct {
		events []api.Event
		want   api.State
	}{
		{most(1, ev(63, 2, 1000, 10000)), api.State{Principal: 100000000, Due: 1000000000000000, Rate: 1000, Day: 10000, Count: 3}},
		{most(198, ev(63, 2, 0, 10000)), api.State{Principal: 19800000000, Due: 198000000000000000, Day: 10000, Count: 200}},
		{most(198, ev(63, 0, 100000000, 10000)), api.State{Principal: 19900000000, Due: 198000000000000000, Rate: 1000, Day: 10000, Count: 200}},
		{most(198, ev(63, 1, 100000000, 10000)), api.State{Principal: 19800000000, Due: 197900000000000000, Rate: 1000, Day: 10000, Count: 200}},
		{most(2, paid[:21]...), api.State{Principal: 100000000, Rate: 1000, Day: 10000, Count: 24}},
		{paid, api.State{Day: 10000, Spare: 20000000000000000, Count: 200}},
		{append(append([]api.Event{}, paid[:199]...), ev(63, 0, 100000000, 10000)), api.State{Day: 10000, Spare: 19800000000000000, Count: 200}},
	} {
		b, g := both(t, c.events...)
		if got, err := b.State(63); got != c.want || err != api.OK {
			t.Errorf("behind %v the state is %+v, %d, want %+v", c.events, got, err, c.want)
		}
		checkBook(t, b, g)
	}
}

// Every order of up to six kinds, with small and great amounts and with none, few and many days between.
func TestP12EveryOrderOfKinds(t *testing.T) {
	amounts := [][]int{{100, 60, 500}, {1, 1, 1}, {7, 99999990, 990}, {99999990, 3, 0}}
	for _, amount := range amounts {
		for _, between := range []int{0, 1, 37, 1500} {
			for order := 0; order < 3*3*3*3*3*3; order++ {
				b, g := both(t)
				for i, left := 0, order; i < 6; i, left = i+1, left/3 {
					e := ev(5, left%3, amount[left%3]+i, i*between)
					got := b.Add(e)
					if want := g.add(e); got != want || want != api.OK {
						t.Fatalf("behind %v: Add(%+v) = %d, want %d", g.events, e, got, want)
					}
					if s, err := b.State(5); s != g.states[5] || err != api.OK {
						t.Fatalf("behind %v the state is %+v, %d, want %+v", g.events, s, err, g.states[5])
					}
				}
			}
		}
	}
}

// Books of many events, of few loans and of many.
func TestP12ManyEvents(t *testing.T) {
	d := &dice{12}
	for _, loans := range []int{1, 2, 5, 64} {
		for round := 0; round < 8; round++ {
			b, g := both(t)
			for day := 0; len(g.events) < 200; day = g.events[len(g.events)-1].Day {
				checkAdd(t, b, g, thrown(d, loans, day))
			}
		}
	}
}

func TestP12Size(t *testing.T) {
	for n := 0; n <= 200; n++ {
		if b, _ := filled(t, n); b.Size() != n {
			t.Errorf("behind %d events the size is %d", n, b.Size())
		}
	}
}

func TestP12NoSuchLoan(t *testing.T) {
	full, _ := filled(t, 200)
	for _, b := range []*lender.Book{lender.New(), full} {
		for _, loan := range append([]int{-64, 64, 65, 127, 128, 64 << 26, math.MinInt + 63}, strange...) {
			if s, err := b.State(loan); s != (api.State{}) || err != api.ErrArg {
				t.Errorf("State(%d) = %+v, %d, want all zeros and ErrArg", loan, s, err)
			}
		}
	}
}
