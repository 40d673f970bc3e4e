// Package accounts: whether an account may be, and the texts whose sums are taken for what it shows.
package accounts

import (
	"lender/api"
	"lender/loans"
	"lender/sums"
)

// Count is how many texts an account has: that of its state, one a depth, and that of the head.
const Count = api.Depth + 2

// MayBe tells whether the numbers of an account may be, whatever it shows.
func MayBe(a api.Account) bool {
	if a.Loan < 0 || a.Loan >= api.Loans {
		return false
	}
	if a.Size < 0 || a.Size > api.MaxLog {
		return false
	}
	if !sums.IsSum(a.Log) {
		return false
	}
	for d := 0; d < api.Depth; d++ {
		if !sums.IsSum(a.Path[d]) {
			return false
		}
	}
	return stateMayBe(a.State)
}

// stateMayBe asks no more than that no number is below 0: whether events lead to such a state only the book can tell.
func stateMayBe(s api.State) bool {
	if s.Principal < 0 || s.Due < 0 || s.Rate < 0 {
		return false
	}
	return s.Day >= 0 && s.Spare >= 0 && s.Count >= 0
}

// Texts are the texts of an account that may be, from that of its state up to that of the head.
func Texts(a api.Account) [Count]string {
	texts := [Count]string{}
	text := loans.StateText(a.State)
	texts[0] = text
	place := a.Loan
	for d := 0; d < api.Depth; d++ {
		x := sums.Sum(text)
		if place%2 == 0 {
			text = loans.PairText(x, a.Path[d])
		} else {
			text = loans.PairText(a.Path[d], x)
		}
		texts[d+1] = text
		place = place / 2
	}
	all := sums.Sum(text)
	texts[Count-1] = loans.HeadText(a.Size, a.Log, all)
	return texts
}

// Shows is what an account that may be shows.
func Shows(a api.Account) int {
	texts := Texts(a)
	return sums.Sum(texts[Count-1])
}
