// Package loans: the events of a book, the states that they bring the loans into, and the texts whose sums make up the loans' sum and the top.
package loans

import (
	"strconv"

	"lender/api"
)

// MayBe tells whether an event may be, whatever came ahead of it.
func MayBe(e api.Event) bool {
	if e.Loan < 0 || e.Loan >= api.Loans {
		return false
	}
	if e.Day < 0 || e.Day > api.MaxDay {
		return false
	}
	switch e.Kind {
	case api.Lend, api.Pay:
		return e.Amount >= 1 && e.Amount <= api.MaxAmount
	case api.Rate:
		return e.Amount >= 0 && e.Amount <= api.MaxRate
	}
	return false
}

// Entry is the entry of an event.
func Entry(e api.Event) string {
	return inDigits([]int{e.Loan, e.Kind, e.Amount, e.Day})
}

// Entries are the entries of events, in their order.
func Entries(events []api.Event) []string {
	l := []string{}
	for i := 0; i < len(events); i++ {
		entry := Entry(events[i])
		l = append(l, entry)
	}
	return l
}

// inDigits writes numbers with decimal digits and a blank between each two.
func inDigits(numbers []int) string {
	text := ""
	for i := 0; i < len(numbers); i++ {
		if i > 0 {
			text = text + " "
		}
		text = text + strconv.Itoa(numbers[i])
	}
	return text
}
