package lender_test

import (
	"math"
	"testing"

	"lender/api"
	"lender/lender"
)

// Accounts that were reckoned once and for all, outside the program and its tests.
func TestP14Examples(t *testing.T) {
	three := []api.Event{ev(5, 0, 100, 0), ev(5, 2, 500, 0), ev(5, 1, 60, 10)}
	seven := []api.Event{ev(1, 0, 50, 1), ev(2, 0, 60, 1), ev(33, 2, 7, 2), ev(33, 0, 1000, 3), ev(1, 1, 70, 4), ev(33, 1, 2, 1000), ev(62, 2, 0, 1000)}
	for _, c := range []struct {
		events []api.Event
		want   api.Account
	}{
		{nil, api.Account{Path: [6]int{3664, 592, 1431, 4063, 2143, 2491}}},
		{nil, api.Account{Loan: 63, Path: [6]int{3664, 592, 1431, 4063, 2143, 2491}}},
		{three, api.Account{Loan: 5, State: api.State{Principal: 41, Rate: 500, Day: 10, Spare: 500000, Count: 3}, Size: 3, Log: 4085, Path: [6]int{3664, 592, 1431, 4063, 2143, 2491}}},
		{three, api.Account{Loan: 4, Size: 3, Log: 4085, Path: [6]int{3077, 592, 1431, 4063, 2143, 2491}}},
		{three, api.Account{Loan: 0, Size: 3, Log: 4085, Path: [6]int{3664, 592, 1033, 4063, 2143, 2491}}},
		{three, api.Account{Loan: 63, Size: 3, Log: 4085, Path: [6]int{3664, 592, 1431, 4063, 2143, 641}}},
		{seven, api.Account{Loan: 0, Size: 7, Log: 668, Path: [6]int{1825, 2925, 1431, 4063, 2143, 2614}}},
		{seven, api.Account{Loan: 1, State: api.State{Day: 4, Spare: 20000000, Count: 2}, Size: 7, Log: 668, Path: [6]int{3664, 2925, 1431, 4063, 2143, 2614}}},
		{seven, api.Account{Loan: 32, Size: 7, Log: 668, Path: [6]int{1538, 592, 1431, 4063, 1572, 1247}}},
		{seven, api.Account{Loan: 63, Size: 7, Log: 668, Path: [6]int{654, 592, 1431, 4063, 412, 1247}}},
	} {
		b, _ := both(t, c.events...)
		if got, err := b.Account(c.want.Loan); got != c.want || err != api.OK {
			t.Errorf("behind %v: Account(%d) = %+v, %d, want %+v", c.events, c.want.Loan, got, err, c.want)
		}
	}
}

// One event of one loan, for each loan: so each place in the tree over the loans is looked at alone, from all loans.
func TestP14EachLoan(t *testing.T) {
	for loan := 0; loan < 64; loan++ {
		b, g := both(t, ev(loan, loan%3, 100, 9))
		checkAccounts(t, b, g)
	}
}

func TestP14ManyEvents(t *testing.T) {
	d := &dice{31}
	for _, loans := range []int{1, 5, 64} {
		b, g := both(t)
		checkAccounts(t, b, g)
		for day := 0; len(g.events) < 200; day = g.events[len(g.events)-1].Day {
			checkAdd(t, b, g, thrown(d, loans, day))
			if n := len(g.events); n < 10 || n%19 == 0 || n > 198 {
				checkAccounts(t, b, g)
			}
		}
	}
}

// What the other calls answer of the book is what its accounts say, and they show its top.
func TestP14AgreesWithTheBook(t *testing.T) {
	for _, n := range []int{0, 1, 2, 17, 64, 128, 199, 200} {
		b, _ := filled(t, n)
		h := b.Head()
		for loan := 0; loan < 64; loan++ {
			a, err := b.Account(loan)
			s, _ := b.State(loan)
			if err != api.OK || a.Loan != loan || a.State != s || a.Size != h.Size || a.Log != h.Log {
				t.Fatalf("behind %d events Account(%d) = %+v, %d, but the state is %+v, the head %+v", n, loan, a, err, s, h)
			}
			if got := showsOf(a); got != h.Top {
				t.Fatalf("behind %d events the account of loan %d shows %d, want %d", n, loan, got, h.Top)
			}
		}
	}
}

func TestP14NoSuchLoan(t *testing.T) {
	full, _ := filled(t, 200)
	for _, b := range []*lender.Book{lender.New(), full} {
		for _, loan := range append([]int{-64, 64, 65, 127, 128, 64 << 26, math.MinInt + 63}, strange...) {
			if a, err := b.Account(loan); a != (api.Account{}) || err != api.ErrArg {
				t.Errorf("Account(%d) = %+v, %d, want all zeros and ErrArg", loan, a, err)
			}
		}
		for _, loan := range []int{0, 63} {
			if a, err := b.Account(loan); a.Loan != loan || err != api.OK {
				t.Errorf("Account(%d) = %+v, %d, want OK", loan, a, err)
			}
		}
	}
}
