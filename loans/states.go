package loans

import "lender/api"

// State is the state of a loan behind events, of which some may be of other loans.
func State(events []api.Event, loan int) api.State {
	s := api.State{}
	for i := 0; i < len(events); i++ {
		if events[i].Loan == loan {
			s = next(s, events[i])
		}
	}
	return s
}

// States are the states of all loans behind events.
func States(events []api.Event) []api.State {
	states := []api.State{}
	for loan := 0; loan < api.Loans; loan++ {
		s := State(events, loan)
		states = append(states, s)
	}
	return states
}

// next is a loan's state behind one more event of it.
func next(s api.State, e api.Event) api.State {
	// What is due up to now is due at the principal and the rate up to now, so this comes first.
	s.Due = s.Due + s.Principal*s.Rate*(e.Day-s.Day)
	s.Day = e.Day
	s.Count = s.Count + 1
	switch e.Kind {
	case api.Lend:
		s.Principal = s.Principal + e.Amount
	case api.Pay:
		s.Spare = s.Spare + e.Amount*api.Million
	case api.Rate:
		s.Rate = e.Amount
	}
	return used(s)
}

// used is a state once what is spare has been used for what is due and for the principal.
func used(s api.State) api.State {
	d := lesser(s.Spare, s.Due)
	s.Spare = s.Spare - d
	s.Due = s.Due - d
	u := lesser(s.Principal, s.Spare/api.Million)
	s.Principal = s.Principal - u
	s.Spare = s.Spare - u*api.Million
	return s
}

func lesser(a int, b int) int {
	if a < b {
		return a
	}
	return b
}
