package lender_test

import (
	"math"
	"slices"
	"testing"

	"lender/api"
	"lender/lender"
)

// checkLie holds Lie against the document's words, and tells the place of the first text among the account's, that of the head being 0; -1 if there is nothing to give away.
func checkLie(t *testing.T, b *lender.Book, g *ledger, a api.Account) int {
	t.Helper()
	top := g.head().Top
	checkAccepts(t, top, a)
	if !acceptsOf(top, a) || (a.Size == len(g.events) && a.Log == rootOf(g.log()) && a.State == g.states[a.Loan]) {
		checkCalm(t, b, a)
		return -1
	}
	texts := accountTextsOf(a)
	x, y, err := b.Lie(a)
	checkAway(t, x, y, err, texts, g.texts())
	return slices.Index(texts, x)
}

// checkFalse checks that an account is accepted, false, and given away.
func checkFalse(t *testing.T, b *lender.Book, g *ledger, a api.Account) int {
	t.Helper()
	at := checkLie(t, b, g, a)
	if at < 0 {
		t.Fatalf("the test's account %+v is not accepted, or not false", a)
	}
	return at
}

// checkCalm checks that nothing comes out but ErrCalm.
func checkCalm(t *testing.T, b *lender.Book, a api.Account) {
	t.Helper()
	if x, y, err := b.Lie(a); x != "" || y != "" || err != api.ErrCalm {
		t.Fatalf("Lie(%+v) = %q, %q, %d, want ErrCalm and nothing else", a, x, y, err)
	}
}

// False accounts that were reckoned once and for all, outside the program and its tests.
func TestP16Examples(t *testing.T) {
	b, g := both(t, ev(5, 0, 100, 0), ev(5, 2, 500, 0), ev(5, 1, 60, 10))
	state := func(principal, spare int) api.State {
		return api.State{Principal: principal, Rate: 500, Day: 10, Spare: spare, Count: 3}
	}
	for _, c := range []struct {
		a    api.Account
		x, y string
	}{
		{api.Account{Loan: 5, State: state(41, 1893), Size: 3, Log: 4085, Path: [6]int{3664, 592, 1431, 4063, 2143, 2491}}, "S41 0 500 10 1893 3", "S41 0 500 10 500000 3"},
		{api.Account{Loan: 5, State: state(0, 500000), Size: 3, Log: 4085, Path: [6]int{3459, 592, 1431, 4063, 2143, 2491}}, "M\x83\rD\t", "MP\x0e\x05\x0c"},
		{api.Account{Loan: 5, State: state(0, 500000), Size: 3, Log: 4085, Path: [6]int{3664, 2700, 1431, 4063, 2143, 2491}}, "M\xf4\x05\x8c\n", "M2\x05P\x02"},
		{api.Account{Loan: 5, State: state(0, 500000), Size: 3, Log: 4085, Path: [6]int{3664, 592, 1223, 4063, 2143, 2491}}, "M\xc7\x04Q\x06", "M\x97\x05\t\x04"},
		{api.Account{Loan: 5, State: state(0, 500000), Size: 3, Log: 4085, Path: [6]int{3664, 592, 1431, 2731, 2143, 2491}}, "M\xea\x07\xab\n", "M\xe1\r\xdf\x0f"},
		{api.Account{Loan: 5, State: state(0, 500000), Size: 3, Log: 4085, Path: [6]int{3664, 592, 1431, 4063, 802, 2491}}, "M\xed\x01\"\x03", "Mp\x0c_\x08"},
		{api.Account{Loan: 5, State: state(0, 500000), Size: 3, Log: 4085, Path: [6]int{3664, 592, 1431, 4063, 2143, 1369}}, "M=\x01Y\x05", "M\x81\x02\xbb\t"},
		{api.Account{Loan: 5, State: state(41, 500000), Size: 0, Log: 882, Path: [6]int{3664, 592, 1431, 4063, 2143, 2491}}, "H\x00\x00r\x03i\x00", "H\x03\x00\xf5\x0fi\x00"},
	} {
		checkFalse(t, b, g, c.a)
		if x, y, err := b.Lie(c.a); x != c.x || y != c.y || err != api.OK {
			t.Errorf("Lie(%+v) = %q, %q, %d, want %q, %q", c.a, x, y, err, c.x, c.y)
		}
	}
}

// Another state with the same sum, all else being true: only the texts of the two states are not the same.
func TestP16AnotherState(t *testing.T) {
	d := &dice{41}
	for _, n := range []int{0, 1, 40, 200} {
		b, g := filled(t, n)
		for loan := 0; loan < 64; loan++ {
			a := g.account(loan)
			a.State = alikeState(sumOf(stateTextOf(a.State)), a.State, d)
			checkFalse(t, b, g, a)
			if x, y, _ := b.Lie(a); x != stateTextOf(a.State) || y != stateTextOf(g.states[loan]) {
				t.Fatalf("Lie(%+v) = %q, %q", a, x, y)
			}
		}
	}
}

// One number of the state alone is another one, small or very great.
func TestP16OneNumberOfTheState(t *testing.T) {
	b, g := filled(t, 90)
	for i := 9; i < 15; i++ {
		for _, loan := range []int{0, 11, 22, 63} {
			for _, from := range []int{0, 1 << 40, math.MaxInt - 50000} {
				good, found := g.account(loan), 0
				sum := sumOf(stateTextOf(good.State))
				for k := 0; k < 50000 && found < 2; k++ {
					a := good
					*numbersOf(&a)[i] = from + k
					if a != good && sumOf(stateTextOf(a.State)) == sum {
						found++
						checkFalse(t, b, g, a)
					}
				}
				if found == 0 {
					t.Errorf("no false state was found with number %d from %d on", i, from)
				}
			}
		}
	}
}

// Another state, and numbers beside it that no loans have, up to each depth; then another root of the log, and another size.
func TestP16FalseUpToEachDepth(t *testing.T) {
	d := &dice{42}
	var found [8][2]int
	for _, n := range []int{0, 3, 70, 200} {
		b, g := filled(t, n)
		for loan := 0; loan < 64; loan += 3 {
			for at := range found {
				if a, ok := forgedAccount(g, loan, at, d); ok {
					checkFalse(t, b, g, a)
					found[at][loan>>min(at, 5)&1]++
				}
			}
		}
	}
	for at, f := range found {
		if f[0] < 3 || f[1] < 3 {
			t.Errorf("false up to the depth %d, with the bit 0 and 1: %v accounts: too few", at, f)
		}
	}
}

// The state is another one with the same sum, and above it a number of the path is one with the same sum: the texts come apart at this number first. Few numbers have such another one, so many books are looked through.
func TestP16AnotherStateAndAnotherPath(t *testing.T) {
	d := &dice{43}
	var found [6][2]int
	for n := 0; n <= 200; n += 4 {
		b, g := filled(t, n)
		for loan := n % 9; loan < 64; loan += 9 {
			a := g.account(loan)
			a.State = alikeState(sumOf(stateTextOf(a.State)), a.State, d)
			checkFalse(t, b, g, a)
			for depth := range found {
				other, ok := alikeNumber(a.Path[depth])
				if !ok {
					continue
				}
				a.Path[depth] = other
				found[depth][loan>>depth&1]++
				checkFalse(t, b, g, a)
			}
		}
	}
	checkFound(t, found)
}

// checkFound checks that numbers were found at each depth, with the bit of the loan 0 and 1.
func checkFound(t *testing.T, found [6][2]int) {
	t.Helper()
	for depth, f := range found {
		if f[0] < 3 || f[1] < 3 {
			t.Errorf("another number at depth %d, with the bit 0 and 1: %v accounts: too few", depth, f)
		}
	}
}

// Another size and another root of the log, the state being true: with the true path, and with another one.
func TestP16AnotherSizeAndLog(t *testing.T) {
	d := &dice{44}
	found := 0
	for _, n := range []int{0, 1, 100, 200} {
		b, g := filled(t, n)
		top := g.head().Top
		for size := 0; size <= 200; size += 5 {
			a := g.account(d.below(64))
			a.Size = size
			if settled(&a, &a.Log, top, d) {
				found++
				checkFalse(t, b, g, a)
			}
			// The size alone is false, and a number of the path makes up for it.
			a = g.account(d.below(64))
			a.Size = (n + 1 + size) % 201
			if a.Size != n && settled(&a, &a.Path[d.below(6)], top, d) {
				found++
				checkFalse(t, b, g, a)
			}
			// The root alone is false, and a number of the path makes up for it.
			a = g.account(d.below(64))
			a.Log = (a.Log + 1 + size) % 4093
			if settled(&a, &a.Path[d.below(6)], top, d) {
				found++
				checkFalse(t, b, g, a)
			}
		}
	}
	if found < 100 {
		t.Errorf("%d false accounts: too few", found)
	}
}

// The log's root alone is another one. Few roots have another one with the same sum, so many books are looked through.
func TestP16AnotherLogAlone(t *testing.T) {
	found := 0
	for n := 0; n <= 200; n++ {
		b, g := filled(t, n)
		a := g.account(n % 64)
		if other, ok := alikeNumber(a.Log); ok {
			found++
			a.Log = other
			if at := checkFalse(t, b, g, a); at != 0 {
				t.Errorf("another log alone is given away by the text at %d", at)
			}
		}
	}
	if found < 3 {
		t.Errorf("%d false accounts: too few", found)
	}
}

// The size alone is another one: no other size has the same sum in the head's text.
func TestP16AnotherSizeAlone(t *testing.T) {
	b, g := filled(t, 90)
	for size := -1; size <= 201; size++ {
		a := g.account(size & 63)
		a.Size = size
		if at := checkLie(t, b, g, a); at >= 0 {
			t.Errorf("another size alone, %d, is given away by the text at %d", size, at)
		}
		checkCalm(t, b, a)
	}
}

// Another path alone is accepted, but says nothing false.
func TestP16AnotherPathAlone(t *testing.T) {
	d := &dice{46}
	var found [6][2]int
	for n := 0; n <= 200; n += 4 {
		b, g := filled(t, n)
		for loan := n % 7; loan < 64; loan += 7 {
			for depth := range found {
				a := g.account(loan)
				if other, ok := alikeNumber(a.Path[depth]); ok {
					found[depth][loan>>depth&1]++
					a.Path[depth] = other
					checkTrue(t, b, g, a)
				}
			}
		}
		// Two numbers that make up for one another.
		a := g.account(d.below(64))
		a.Path[n/4%6] = d.below(4093)
		if settled(&a, &a.Path[(n/4+1+d.below(5))%6], g.head().Top, d) {
			checkTrue(t, b, g, a)
		}
	}
	checkFound(t, found)
}

// checkTrue checks that an account is accepted and calm.
func checkTrue(t *testing.T, b *lender.Book, g *ledger, a api.Account) {
	t.Helper()
	if !lender.Accepts(g.head().Top, a) {
		t.Fatalf("the test's account %+v is not accepted", a)
	}
	checkCalm(t, b, a)
}

// Another loan alone: accepted where the sums beside are the same, and calm where the states are.
func TestP16AnotherLoanAlone(t *testing.T) {
	for _, n := range []int{0, 5, 60} {
		b, g := filled(t, n)
		for one := 0; one < 64; one++ {
			for other := 0; other < 64; other++ {
				a := g.account(one)
				a.Loan = other
				checkLie(t, b, g, a)
			}
		}
	}
	// Two loans beside one another whose states are not the same, but the sums of their texts are.
	first, second := alikePayments()
	for depth := 0; depth < 6; depth++ {
		for _, one := range []int{0, 21, 42, 63} {
			other := one ^ 1<<depth
			b, g := both(t, ev(one, 1, first, 7), ev(other, 1, second, 7))
			for _, loan := range []int{one, other} {
				a := g.account(loan)
				a.Loan = loan ^ 1<<depth
				checkFalse(t, b, g, a)
				a = g.account(loan)
				a.State = g.states[loan^1<<depth]
				checkFalse(t, b, g, a)
			}
		}
	}
}

// alikePayments gives two amounts that, paid on day 7 as a loan's first event, lead to states with the same sum.
func alikePayments() (int, int) {
	var amounts [4093]int
	for amount := 1; ; amount++ {
		sum := sumOf(stateTextOf(api.State{Day: 7, Spare: amount * 1000000, Count: 1}))
		if amounts[sum] > 0 {
			return amounts[sum], amount
		}
		amounts[sum] = amount
	}
}

// What is not accepted: one number changed, and any numbers.
func TestP16NotAccepted(t *testing.T) {
	d := &dice{47}
	for _, n := range []int{0, 1, 33, 200} {
		b, g := filled(t, n)
		for round := 0; round < 300; round++ {
			a := g.account(d.below(64))
			checkLie(t, b, g, a)
			i := d.below(15)
			*numbersOf(&a)[i] = d.below(min(greatestOf(i), 1000000) + 1)
			checkLie(t, b, g, a)
			checkLie(t, b, g, anyAccount(d))
			a = anyAccount(d)
			*numbersOf(&a)[i] = strange[d.below(len(strange))]
			checkLie(t, b, g, a)
		}
	}
}

// False accounts that would be accepted, but for a number that may not be and looks like the true one.
func TestP16NumbersThatMayNotBe(t *testing.T) {
	d := &dice{48}
	b, g := filled(t, 77)
	for _, loan := range []int{0, 11, 38, 63} {
		good := g.account(loan)
		good.State = alikeState(sumOf(stateTextOf(good.State)), good.State, d)
		checkFalse(t, b, g, good)
		for i := range numbersOf(&good)[:9] {
			for _, more := range []int{64, -64, 4093, -4093, 65536, -65536, 1 << 32, math.MinInt} {
				a := good
				*numbersOf(&a)[i] += more
				checkLie(t, b, g, a)
				if n := *numbersOf(&a)[i]; n < 0 || n > greatestOf(i) {
					checkCalm(t, b, a)
				}
			}
		}
	}
	for i := 9; i < 15; i++ {
		a, sum := g.account(11), sumOf(stateTextOf(g.states[11]))
		for {
			a.State = anyState(d)
			*numbersOf(&a)[i] *= -1
			if *numbersOf(&a)[i] < 0 && sumOf(stateTextOf(a.State)) == sum {
				break
			}
		}
		checkCalm(t, b, a)
	}
}

// An account of an earlier book, or of another one, is not accepted, or is given away; those of the book itself are calm.
func TestP16AccountsOfOtherBooks(t *testing.T) {
	d := &dice{49}
	b, g := both(t)
	var kept []api.Account
	for day := 0; len(g.events) < 200; day = g.events[len(g.events)-1].Day {
		a, _ := b.Account(d.below(5))
		kept = append(kept, a)
		checkAdd(t, b, g, thrown(d, 5, day))
	}
	for _, a := range kept {
		checkLie(t, b, g, a)
	}
	other, h := filled(t, 200)
	for loan := 0; loan < 64; loan++ {
		checkLie(t, b, g, h.account(loan))
		checkLie(t, other, h, g.account(loan))
		checkCalm(t, b, g.account(loan))
		checkCalm(t, other, h.account(loan))
	}
}
