package loans_test

import (
	"testing"

	"lender/api"
	"lender/loans"
)

func TestMayBe(t *testing.T) {
	for _, c := range []struct {
		e    api.Event
		want bool
	}{
		{api.Event{}, false},
		{api.Event{Amount: 1}, true},
		{api.Event{Loan: 63, Kind: api.Pay, Amount: api.MaxAmount, Day: api.MaxDay}, true},
		{api.Event{Kind: api.Rate}, true},
		{api.Event{Kind: api.Rate, Amount: api.MaxRate}, true},
		{api.Event{Kind: api.Rate, Amount: api.MaxRate + 1}, false},
		{api.Event{Kind: api.Rate + 1, Amount: 1}, false},
		{api.Event{Loan: 64, Amount: 1}, false},
		{api.Event{Amount: 1, Day: api.MaxDay + 1}, false},
	} {
		if loans.MayBe(c.e) != c.want {
			t.Errorf("MayBe(%+v) is not %v", c.e, c.want)
		}
	}
}

func TestEntries(t *testing.T) {
	if got := loans.Entry(api.Event{Loan: 5, Kind: 1, Amount: 7, Day: 3}); got != "5 1 7 3" {
		t.Errorf("Entry = %q", got)
	}
	if got := loans.Entries(nil); len(got) != 0 {
		t.Errorf("Entries of nothing = %q", got)
	}
	got := loans.Entries([]api.Event{{Loan: 63, Amount: 100000000, Day: 10000}, {Kind: 2}})
	if len(got) != 2 || got[0] != "63 0 100000000 10000" || got[1] != "0 2 0 0" {
		t.Errorf("Entries = %q", got)
	}
}

func TestStates(t *testing.T) {
	events := []api.Event{{Loan: 3, Amount: 100}, {Loan: 3, Kind: 2, Amount: 500}, {Loan: 9, Kind: 1, Amount: 7, Day: 3}, {Loan: 3, Kind: 1, Amount: 60, Day: 10}}
	states := loans.States(events)
	if len(states) != api.Loans {
		t.Fatalf("there are %d states", len(states))
	}
	for loan, s := range states {
		want := api.State{}
		switch loan {
		case 3:
			want = api.State{Principal: 41, Rate: 500, Day: 10, Spare: 500000, Count: 3}
		case 9:
			want = api.State{Day: 3, Spare: 7000000, Count: 1}
		}
		if s != want || s != loans.State(events, loan) {
			t.Errorf("the state of loan %d is %+v, want %+v", loan, s, want)
		}
	}
}

func TestTexts(t *testing.T) {
	if got := loans.StateText(api.State{Principal: 1, Due: 20, Rate: 3, Day: 4, Spare: 5, Count: 6}); got != "S1 20 3 4 5 6" {
		t.Errorf("StateText = %q", got)
	}
	if got := loans.PairText(4092, 258); got != "M\xfc\x0f\x02\x01" {
		t.Errorf("PairText = %q", got)
	}
	if got := loans.HeadText(200, 4092, 258); got != "H\xc8\x00\xfc\x0f\x02\x01" {
		t.Errorf("HeadText = %q", got)
	}
}

func TestSum(t *testing.T) {
	none := api.State{}
	one := api.State{Principal: 1}
	if got := loans.Text(nil); got != "" {
		t.Errorf("the text of no states is %q", got)
	}
	if got := loans.Text([]api.State{one}); got != "S1 0 0 0 0 0" {
		t.Errorf("the text of one state is %q", got)
	}
	first := loans.Sum([]api.State{none})
	other := loans.Sum([]api.State{one})
	if got := loans.Text([]api.State{none, one}); got != loans.PairText(first, other) {
		t.Errorf("the text of two states is %q", got)
	}
	if got := loans.Sum(loans.States(nil)); got != 3514 {
		t.Errorf("the loans' sum without events is %d, want 3514", got)
	}
}

// Each loan has a state of its own: so each sum stands at one place alone.
func TestPath(t *testing.T) {
	states := loans.States(nil)
	for loan := range states {
		states[loan].Principal = loan
	}
	for loan := range states {
		path := loans.Path(states, loan)
		for d := range path {
			// The neighbours at depth d begin where the loan's own, with the bit d turned, have no bits below it.
			begin := (loan ^ 1<<d) >> d << d
			if want := loans.Sum(states[begin : begin+1<<d]); path[d] != want {
				t.Errorf("beside loan %d at depth %d stands %d, want %d", loan, d, path[d], want)
			}
		}
	}
}

func TestPathEnds(t *testing.T) {
	for _, states := range [][]api.State{nil, make([]api.State, 1), make([]api.State, 5), make([]api.State, 64)} {
		for _, loan := range []int{-1 << 63, -1, 0, 63, 64, 1<<63 - 1} {
			loans.Path(states, loan)
		}
	}
}
