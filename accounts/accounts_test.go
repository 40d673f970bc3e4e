package accounts_test

import (
	"testing"

	"lender/accounts"
	"lender/api"
	"lender/sums"
)

var good = api.Account{
	Loan:  37,
	State: api.State{Principal: 1, Due: 2, Rate: 3, Day: 4, Spare: 5, Count: 6},
	Size:  200,
	Log:   4092,
	Path:  [api.Depth]int{0, 4092, 7, 8, 9, 10},
}

func TestMayBe(t *testing.T) {
	if !accounts.MayBe(good) || !accounts.MayBe(api.Account{}) {
		t.Error("an account that may be")
	}
	for what, change := range map[string]func(a *api.Account){
		"the loan -1":   func(a *api.Account) { a.Loan = -1 },
		"the loan 64":   func(a *api.Account) { a.Loan = 64 },
		"the size -1":   func(a *api.Account) { a.Size = -1 },
		"the size 201":  func(a *api.Account) { a.Size = 201 },
		"the log -1":    func(a *api.Account) { a.Log = -1 },
		"the log 4093":  func(a *api.Account) { a.Log = 4093 },
		"a path's -1":   func(a *api.Account) { a.Path[5] = -1 },
		"a path's 4093": func(a *api.Account) { a.Path[0] = 4093 },
		"a state's -1":  func(a *api.Account) { a.State.Count = -1 },
	} {
		a := good
		change(&a)
		if accounts.MayBe(a) {
			t.Errorf("an account with %s may be", what)
		}
	}
}

// Loan 37 has the bits 1, 0, 1, 0, 0, 1 from depth 0 on.
func TestTexts(t *testing.T) {
	texts := accounts.Texts(good)
	two := func(i int) string { return sums.TwoBytes(sums.Sum(texts[i])) }
	for i, want := range []string{
		"S1 2 3 4 5 6",
		"M\x00\x00" + two(0),
		"M" + two(1) + "\xfc\x0f",
		"M\x07\x00" + two(2),
		"M" + two(3) + "\x08\x00",
		"M" + two(4) + "\x09\x00",
		"M\x0a\x00" + two(5),
		"H\xc8\x00\xfc\x0f" + two(6),
	} {
		if texts[i] != want {
			t.Errorf("text %d is %q, want %q", i, texts[i], want)
		}
	}
	if got := accounts.Shows(good); got != sums.Sum(texts[7]) {
		t.Errorf("it shows %d, want %d", got, sums.Sum(texts[7]))
	}
}
