package lender_test

import (
	"testing"

	"lender/api"
	"lender/lender"
)

// P1 and P2 for the calls of accounts.

// One number after the other is any number at all, the others being those of a true account and of a false one.
func TestP1EveryAccountEnds(t *testing.T) {
	d := &dice{51}
	for _, n := range []int{0, 9, 200} {
		b, g := filled(t, n)
		good := g.account(38)
		bad := good
		bad.State = alikeState(sumOf(stateTextOf(good.State)), good.State, d)
		for _, a := range []api.Account{good, bad} {
			for i := range numbersOf(&a) {
				for _, number := range append([]int{0, 1, 63, 64, 200, 255, 256, 4092, 65535}, strange...) {
					other := a
					*numbersOf(&other)[i] = number
					checkLie(t, b, g, other)
					for _, top := range strange {
						checkAccepts(t, top, other)
					}
				}
			}
		}
	}
}

func TestP2AccountsAreTheCallersOwn(t *testing.T) {
	b, g := filled(t, 60)
	var kept [64]api.Account
	for loan := range kept {
		a, _ := b.Account(loan)
		kept[loan] = a
		for _, number := range numbersOf(&a) {
			*number = -9
		}
		checkBook(t, b, g)
	}
	checkAccounts(t, b, g)
	before := *g
	checkAdd(t, b, g, ev(7, 0, 3, 500))
	checkAdd(t, b, g, ev(40, 1, 9, 500))
	checkAccounts(t, b, g)
	for loan, a := range kept {
		if a != before.account(loan) {
			t.Errorf("a later call changed the account of loan %d", loan)
		}
	}
}

// Accounts that are true, false and turned down are asked about ahead of each event: the book goes on as if they were not.
func TestP2AccountsLeaveTheBook(t *testing.T) {
	d := &dice{52}
	b, g := both(t)
	for day := 0; len(g.events) < 200; day = g.events[len(g.events)-1].Day {
		loan := d.below(64)
		good := g.account(loan)
		bad := good
		bad.State = alikeState(sumOf(stateTextOf(good.State)), good.State, d)
		for _, a := range []api.Account{good, bad, anyAccount(d), {Loan: -1}} {
			b.Account(a.Loan)
			lender.Accepts(g.head().Top, a)
			b.Lie(a)
			checkBook(t, b, g)
		}
		checkAdd(t, b, g, thrown(d, 64, day))
	}
	checkAccounts(t, b, g)
}

// Nothing of an account that was handed in is kept: neither when it was given away, nor when it was true.
func TestP2NoAccountIsKept(t *testing.T) {
	d := &dice{53}
	b, g := filled(t, 30)
	for loan := 0; loan < 64; loan += 5 {
		good := g.account(loan)
		bad := good
		bad.State = alikeState(sumOf(stateTextOf(good.State)), good.State, d)
		checkFalse(t, b, g, bad)
		checkTrue(t, b, g, good)
		checkFalse(t, b, g, bad)
		bad.State = alikeState(sumOf(stateTextOf(good.State)), bad.State, d)
		checkLie(t, b, g, bad)
		bad.State.Count++
		checkLie(t, b, g, bad)
	}
}

func TestP2AccountsOfTwoBooks(t *testing.T) {
	d := &dice{54}
	one, g := both(t)
	other, h := both(t)
	for i := 0; i < 40; i++ {
		checkAdd(t, one, g, thrown(d, 3, i*130))
		if i%2 == 0 {
			checkAdd(t, other, h, thrown(d, 3, i*130))
		}
		for loan := 0; loan < 4; loan++ {
			checkLie(t, one, g, h.account(loan))
			checkLie(t, other, h, g.account(loan))
		}
		if i%8 == 0 {
			checkAccounts(t, one, g)
			checkAccounts(t, other, h)
		}
	}
	// Books of the same events say the same.
	twin, _ := both(t, g.events...)
	checkAccounts(t, twin, g)
}

// Which two texts come out is open, but they are the same two each time: with other calls between, and from another book of the same events.
func TestP2TheSameLieEachTime(t *testing.T) {
	d := &dice{55}
	for _, n := range []int{0, 1, 50, 200} {
		b, g := filled(t, n)
		found := 0
		for loan := 1; loan < 64; loan += 10 {
			for at := 0; at < 8; at++ {
				a, ok := forgedAccount(g, loan, at, d)
				if !ok {
					continue
				}
				found++
				x, y, err := b.Lie(a)
				another, _ := filled(t, n)
				for round := 0; round < 3; round++ {
					others(b)
					x2, y2, err2 := b.Lie(a)
					x3, y3, err3 := another.Lie(a)
					if err != api.OK || err2 != err || err3 != err || x2 != x || y2 != y || x3 != x || y3 != y {
						t.Fatalf("Lie(%+v) = %q, %q, %d, then %q, %q, %d, then %q, %q, %d", a, x, y, err, x2, y2, err2, x3, y3, err3)
					}
				}
			}
		}
		if found < 10 {
			t.Errorf("%d false accounts: too few", found)
		}
	}
}

// The same answers each time, with other calls between.
func TestP2AccountsAreTheSameEachTime(t *testing.T) {
	d := &dice{56}
	for _, n := range []int{0, 2, 77, 200} {
		b, g := filled(t, n)
		for round := 0; round < 3; round++ {
			checkAccounts(t, b, g)
			others(b)
			for i := 0; i < 20; i++ {
				b.Lie(anyAccount(d))
				lender.Accepts(d.below(4093), g.account(i))
			}
			b.Account(64)
			for loan := 0; loan < 64; loan++ {
				checkTrue(t, b, g, g.account(loan))
			}
		}
	}
}
