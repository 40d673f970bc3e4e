package lender_test

import (
	"math"
	"testing"

	"lender/api"
	"lender/lender"
)

// numbersOf gives the numbers of an account: Loan, Size and Log, the Path's six, then the State's six.
func numbersOf(a *api.Account) []*int {
	numbers := []*int{&a.Loan, &a.Size, &a.Log}
	for d := range a.Path {
		numbers = append(numbers, &a.Path[d])
	}
	s := &a.State
	return append(numbers, &s.Principal, &s.Due, &s.Rate, &s.Day, &s.Spare, &s.Count)
}

// greatestOf gives the greatest number that may be, of those that numbersOf gives.
func greatestOf(i int) int {
	switch {
	case i == 0:
		return 63
	case i == 1:
		return 200
	case i < 9:
		return 4092
	}
	return math.MaxInt
}

// anyAccount gives an account of numbers that may be.
func anyAccount(d *dice) api.Account {
	a := api.Account{State: anyState(d)}
	for i, number := range numbersOf(&a)[:9] {
		*number = d.below(greatestOf(i) + 1)
	}
	return a
}

// checkAccepts holds Accepts under a top against the document's words.
func checkAccepts(t *testing.T, top int, a api.Account) {
	t.Helper()
	if got, want := lender.Accepts(top, a), acceptsOf(top, a); got != want {
		t.Fatalf("Accepts(%d, %+v) = %v, want %v", top, a, got, want)
	}
}

// acceptedUnder tells under how many tops an account is accepted: of all that are sums, and of some that are not.
func acceptedUnder(a api.Account) int {
	found := 0
	for top := -300; top < 4093+300; top++ {
		if lender.Accepts(top, a) {
			found++
		}
	}
	for _, top := range strange {
		if (top < -300 || top >= 4093+300) && lender.Accepts(top, a) {
			found++
		}
	}
	return found
}

// Accounts that were reckoned once and for all, outside the program and its tests.
func TestP15Examples(t *testing.T) {
	s := api.State{Principal: 41, Rate: 500, Day: 10, Spare: 500000, Count: 3}
	a := api.Account{Loan: 5, State: s, Size: 3, Log: 4085, Path: [6]int{3664, 592, 1431, 4063, 2143, 2491}}
	empty := api.Account{Path: [6]int{3664, 592, 1431, 4063, 2143, 2491}}
	for _, c := range []struct {
		top  int
		a    api.Account
		want bool
	}{
		{898, a, true}, {897, a, false}, {899, a, false}, {0, a, false}, {-898, a, false}, {898 + 4093, a, false}, {898 - 4093, a, false}, {898 + 65536, a, false},
		{2895, empty, true}, {898, empty, false}, {2895, a, false}, {2895, api.Account{}, false}, {0, api.Account{}, false},
	} {
		if got := lender.Accepts(c.top, c.a); got != c.want {
			t.Errorf("Accepts(%d, %+v) = %v, want %v", c.top, c.a, got, c.want)
		}
	}
}

func TestP15TheBooksOwn(t *testing.T) {
	for _, n := range []int{0, 1, 7, 64, 199, 200} {
		b, g := filled(t, n)
		top := b.Head().Top
		for loan := 0; loan < 64; loan++ {
			a, _ := b.Account(loan)
			if !lender.Accepts(top, a) {
				t.Fatalf("behind %d events the account of loan %d is turned down", n, loan)
			}
			for _, other := range []int{top + 1, top - 1, top + 4093, top - 4093, top + 65536, -top - 1, g.head().Map + 4093} {
				if lender.Accepts(other, a) {
					t.Fatalf("behind %d events the account of loan %d is accepted under %d, not %d alone", n, loan, other, top)
				}
			}
		}
	}
}

// Any account that may be is accepted under what it shows, and under nothing else.
func TestP15AnyAccount(t *testing.T) {
	d := &dice{32}
	for round := 0; round < 20000; round++ {
		a := anyAccount(d)
		shown := showsOf(a)
		checkAccepts(t, shown, a)
		checkAccepts(t, d.below(4093), a)
		checkAccepts(t, shown+1-2*d.below(2), a)
		checkAccepts(t, shown+4093*(1-2*d.below(2)), a)
		if round%400 == 0 && acceptedUnder(a) != 1 {
			t.Fatalf("%+v is accepted under %d tops", a, acceptedUnder(a))
		}
	}
}

// Each number of an account counts: with another one it shows something else, or is still accepted by the document's words.
func TestP15EachNumberCounts(t *testing.T) {
	d := &dice{33}
	for round := 0; round < 200; round++ {
		a := anyAccount(d)
		shown, same := showsOf(a), 0
		for i, number := range numbersOf(&a) {
			truth := *number
			for k := 0; k < 20; k++ {
				*number = d.below(min(greatestOf(i), 1000000) + 1)
				checkAccepts(t, shown, a)
				if *number != truth && lender.Accepts(shown, a) {
					same++
				}
			}
			*number = truth
		}
		if same > 30 {
			t.Fatalf("%d changes of one number of %+v are accepted under the same top", same, a)
		}
	}
}

// Each number at the edges that the document names, the others being as they may.
func TestP15Edges(t *testing.T) {
	d := &dice{34}
	for i := range numbersOf(&api.Account{}) {
		greatest := greatestOf(i)
		for _, n := range []int{math.MinInt, -65536, -4093, -64, -1, 0, 1, 63, 64, 200, 201, 255, 256, 4092, 4093, 4094, 65535, 65536, 1 << 32, math.MaxInt - 1, math.MaxInt} {
			a := anyAccount(d)
			*numbersOf(&a)[i] = n
			want := 0
			if n >= 0 && n <= greatest {
				want = 1
				checkAccepts(t, showsOf(a), a)
			}
			if got := acceptedUnder(a); got != want {
				t.Errorf("with its number %d being %d an account is accepted under %d tops, want %d", i, n, got, want)
			}
		}
	}
}

// All numbers at their edges at once: the least, the greatest, and one of them beyond.
func TestP15AllAtTheirEdges(t *testing.T) {
	var least, greatest api.Account
	for i, number := range numbersOf(&greatest) {
		*number = greatestOf(i)
	}
	for _, good := range []api.Account{least, greatest} {
		checkAccepts(t, showsOf(good), good)
		if got := acceptedUnder(good); got != 1 {
			t.Errorf("%+v is accepted under %d tops, want 1", good, got)
		}
		for i := range numbersOf(&good) {
			for _, beyond := range []int{-1, greatestOf(i) + 1} {
				a := good
				// Beyond the greatest int is the least.
				*numbersOf(&a)[i] = beyond
				if got := acceptedUnder(a); got != 0 {
					t.Errorf("%+v is accepted under %d tops, want none", a, got)
				}
			}
		}
	}
}

// Numbers that may not be, but have the bits or the bytes of the true ones.
func TestP15NumbersThatLookAlike(t *testing.T) {
	b, _ := filled(t, 77)
	top := b.Head().Top
	for loan := 0; loan < 64; loan++ {
		good, _ := b.Account(loan)
		for i := range numbersOf(&good)[:9] {
			for _, more := range []int{64, -64, 128, 1 << 32, math.MinInt, 256, -256, 4093, -4093, 65536, -65536, 1 << 16 * 3, 1 << 40} {
				a := good
				number := numbersOf(&a)[i]
				*number += more
				if *number >= 0 && *number <= greatestOf(i) {
					checkAccepts(t, top, a)
				} else if lender.Accepts(top, a) {
					t.Fatalf("%+v is accepted: its number %d is %d", a, i, *number)
				}
			}
		}
	}
}

// States with numbers below 0 whose texts have the sum of the true one.
func TestP15NegativeStatesThatLookAlike(t *testing.T) {
	d := &dice{35}
	b, _ := filled(t, 40)
	top := b.Head().Top
	for i := 9; i < 15; i++ {
		good, _ := b.Account(11)
		sum, found := sumOf(stateTextOf(good.State)), 0
		for found < 3 {
			a := good
			a.State = anyState(d)
			number := numbersOf(&a)[i]
			*number = -1 - *number
			if sumOf(stateTextOf(a.State)) != sum {
				continue
			}
			found++
			if lender.Accepts(top, a) {
				t.Fatalf("%+v is accepted with a number below 0", a.State)
			}
		}
	}
}

// What no events lead to is accepted nevertheless: Accepts knows no book.
func TestP15StatesThatNoEventsLeadTo(t *testing.T) {
	for _, s := range []api.State{{Rate: 1001}, {Day: 10001}, {Count: 201}, {Principal: math.MaxInt}, {Due: math.MaxInt}, {Rate: math.MaxInt}, {Day: math.MaxInt}, {Spare: math.MaxInt}, {Count: math.MaxInt}, {Principal: 1, Spare: 5000000}, {Due: 1, Spare: 1}} {
		for _, size := range []int{0, 1, 200} {
			for _, log := range []int{0, 1, 4092} {
				a := api.Account{Loan: 40, State: s, Size: size, Log: log, Path: [6]int{0, 4092, 1, 2, 3, 4}}
				if !lender.Accepts(showsOf(a), a) {
					t.Errorf("%+v is turned down", a)
				}
			}
		}
	}
}

// Of another loan's state, and of another loan: accepted only where it shows the same.
func TestP15AnotherLoans(t *testing.T) {
	b, g := filled(t, 50)
	top, accepted := g.head().Top, 0
	for one := 0; one < 64; one++ {
		for other := 0; other < 64; other++ {
			a, _ := b.Account(one)
			a.State = g.states[other]
			checkAccepts(t, top, a)
			a = g.account(one)
			a.Loan = other
			checkAccepts(t, top, a)
			if lender.Accepts(top, a) {
				accepted++
			}
		}
	}
	if accepted < 64 || accepted > 1000 {
		t.Errorf("%d accounts of %d with another loan's number are accepted", accepted, 64*64)
	}
}

// Earlier accounts of a book are accepted under its earlier tops, not under later ones.
func TestP15EarlierAccounts(t *testing.T) {
	d := &dice{36}
	b, g := both(t)
	var tops []int
	var kept []api.Account
	for day := 0; len(g.events) < 120; day = g.events[len(g.events)-1].Day {
		a, _ := b.Account(d.below(8))
		tops, kept = append(tops, b.Head().Top), append(kept, a)
		checkAdd(t, b, g, thrown(d, 8, day))
	}
	for i, top := range tops {
		for j, a := range kept {
			checkAccepts(t, top, a)
			if i == j && !lender.Accepts(top, a) {
				t.Fatalf("the account behind %d events is turned down", i)
			}
		}
	}
}

func TestP15AnyNumbersEnd(t *testing.T) {
	d := &dice{37}
	for round := 0; round < 20000; round++ {
		a := anyAccount(d)
		for _, number := range numbersOf(&a) {
			if d.below(8) == 0 {
				*number = strange[d.below(len(strange))]
			}
		}
		tops := append([]int{d.below(4093)}, strange...)
		top := tops[d.below(len(tops))]
		checkAccepts(t, top, a)
	}
}
