package lender_test

import (
	"fmt"
	"math/big"
	"testing"

	"lender/api"
	"lender/lender"
)

// What a book should answer is reckoned here in other ways than the program's: the states event by event in numbers without a bound, the loans' sum row by row from the loans upwards.

// ledger holds what was taken, and the states behind it.
type ledger struct {
	events []api.Event
	states [64]api.State
}

func ev(loan, kind, amount, day int) api.Event {
	return api.Event{Loan: loan, Kind: kind, Amount: amount, Day: day}
}

func mayBe(e api.Event) bool {
	bounds, known := map[int][2]int{0: {1, 100000000}, 1: {1, 100000000}, 2: {0, 1000}}[e.Kind]
	return known && bounds[0] <= e.Amount && e.Amount <= bounds[1] && 0 <= e.Loan && e.Loan <= 63 && 0 <= e.Day && e.Day <= 10000
}

func (g *ledger) add(e api.Event) api.Errno {
	last := 0
	for _, s := range g.states {
		last = max(last, s.Day)
	}
	switch {
	case len(g.events) == 200:
		return api.ErrFull
	case !mayBe(e):
		return api.ErrEvent
	case e.Day < last:
		return api.ErrDay
	}
	g.events = append(g.events, e)
	g.states[e.Loan] = nextOf(g.states[e.Loan], e)
	return api.OK
}

func nextOf(s api.State, e api.Event) api.State {
	number := func(n int) *big.Int { return big.NewInt(int64(n)) }
	million, principal, due, spare := number(1000000), number(s.Principal), number(s.Due), number(s.Spare)
	daily := new(big.Int).Mul(principal, number(s.Rate))
	due.Add(due, daily.Mul(daily, number(e.Day-s.Day)))
	s.Day, s.Count = e.Day, s.Count+1
	switch e.Kind {
	case 0:
		principal.Add(principal, number(e.Amount))
	case 1:
		spare.Add(spare, new(big.Int).Mul(number(e.Amount), million))
	case 2:
		s.Rate = e.Amount
	}
	if spare.Cmp(due) <= 0 {
		due, spare = due.Sub(due, spare), number(0)
	} else {
		due, spare = number(0), spare.Sub(spare, due)
	}
	units, rest := new(big.Int).QuoRem(spare, million, number(0))
	if units.Cmp(principal) <= 0 {
		principal, spare = principal.Sub(principal, units), rest
	} else {
		principal, spare = number(0), spare.Sub(spare, principal.Mul(principal, million))
	}
	s.Principal, s.Due, s.Spare = int(principal.Int64()), int(due.Int64()), int(spare.Int64())
	return s
}

func entryOf(e api.Event) string {
	return fmt.Sprintf("%d %d %d %d", e.Loan, e.Kind, e.Amount, e.Day)
}

func (g *ledger) log() []string {
	var l []string
	for _, e := range g.events {
		l = append(l, entryOf(e))
	}
	return l
}

func stateTextOf(s api.State) string {
	return fmt.Sprintf("S%d %d %d %d %d %d", s.Principal, s.Due, s.Rate, s.Day, s.Spare, s.Count)
}

// numbersText gives a letter and the two bytes of each number.
func numbersText(letter string, numbers ...int) string {
	for _, n := range numbers {
		letter += string([]byte{byte(n & 255), byte(n >> 8)})
	}
	return letter
}

// depths gives the sums at each depth, from 0 up to 6.
func (g *ledger) depths() [7][]int {
	var sums [7][]int
	for _, s := range g.states {
		sums[0] = append(sums[0], sumOf(stateTextOf(s)))
	}
	for d := 1; d <= 6; d++ {
		for j := 0; j < 64>>d; j++ {
			sums[d] = append(sums[d], sumOf(numbersText("M", sums[d-1][2*j], sums[d-1][2*j+1])))
		}
	}
	return sums
}

func (g *ledger) head() api.Head {
	h := api.Head{Size: len(g.events), Log: rootOf(g.log()), Map: g.depths()[6][0]}
	h.Top = sumOf(numbersText("H", h.Size, h.Log, h.Map))
	return h
}

// account gives the account of a loan: beside its sum at depth d stands the one at the other place of their pair.
func (g *ledger) account(loan int) api.Account {
	h, sums := g.head(), g.depths()
	a := api.Account{Loan: loan, State: g.states[loan], Size: h.Size, Log: h.Log}
	for d := range a.Path {
		a.Path[d] = sums[d][loan>>d^1]
	}
	return a
}

// texts gives the texts of a book.
func (g *ledger) texts() []string {
	h, sums := g.head(), g.depths()
	texts := []string{numbersText("H", h.Size, h.Log, h.Map)}
	for _, s := range g.states {
		texts = append(texts, stateTextOf(s))
	}
	for _, row := range sums[:6] {
		for j := 0; j < len(row); j += 2 {
			texts = append(texts, numbersText("M", row[j], row[j+1]))
		}
	}
	return texts
}

// accountTextsOf gives the texts of an account, that of the head first.
func accountTextsOf(a api.Account) []string {
	texts := risesOf(a, 6)
	return append([]string{numbersText("H", a.Size, a.Log, sumOf(texts[0]))}, texts...)
}

// risesOf gives the texts of an account up to a depth, the highest first.
func risesOf(a api.Account, depth int) []string {
	if depth == 0 {
		return []string{stateTextOf(a.State)}
	}
	below := risesOf(a, depth-1)
	pair := [2]int{sumOf(below[0]), a.Path[depth-1]}
	if a.Loan>>(depth-1)&1 == 1 {
		pair[0], pair[1] = pair[1], pair[0]
	}
	return append([]string{numbersText("M", pair[:]...)}, below...)
}

// showsOf tells what an account of numbers that may be shows.
func showsOf(a api.Account) int {
	return sumOf(accountTextsOf(a)[0])
}

// acceptsOf tells whether an account is accepted.
func acceptsOf(top int, a api.Account) bool {
	s := a.State
	least := min(s.Principal, s.Due, s.Rate, s.Day, s.Spare, s.Count, a.Loan, a.Size, a.Log)
	greatest := a.Log
	for _, p := range a.Path {
		least, greatest = min(least, p), max(greatest, p)
	}
	return least >= 0 && greatest <= 4092 && a.Loan <= 63 && a.Size <= 200 && showsOf(a) == top
}

// differs tells the first answer of a book that is not the ledger's; the empty text if there is none.
func differs(b *lender.Book, g *ledger) string {
	if got := b.Size(); got != len(g.events) {
		return fmt.Sprintf("Size = %d, want %d", got, len(g.events))
	}
	if got := b.Log(); len(got) != len(g.events) || fmt.Sprintf("%q", got) != fmt.Sprintf("%q", g.log()) {
		return fmt.Sprintf("Log = %q, want %q", got, g.log())
	}
	for loan, want := range g.states {
		if got, err := b.State(loan); got != want || err != api.OK {
			return fmt.Sprintf("State(%d) = %+v, %d, want %+v", loan, got, err, want)
		}
	}
	if got := b.Head(); got != g.head() {
		return fmt.Sprintf("Head = %+v, want %+v", got, g.head())
	}
	return ""
}

func checkBook(t *testing.T, b *lender.Book, g *ledger) {
	t.Helper()
	if what := differs(b, g); what != "" {
		t.Fatalf("behind %v: %s", g.events, what)
	}
}

// checkAccounts holds the account of each loan against the ledger's.
func checkAccounts(t *testing.T, b *lender.Book, g *ledger) {
	t.Helper()
	for loan := range g.states {
		if got, err := b.Account(loan); got != g.account(loan) || err != api.OK {
			t.Fatalf("behind %v: Account(%d) = %+v, %d, want %+v", g.events, loan, got, err, g.account(loan))
		}
	}
}

// checkAdd adds an event to both, and holds the error and all that the book answers then against the ledger's.
func checkAdd(t *testing.T, b *lender.Book, g *ledger, e api.Event) {
	t.Helper()
	got := b.Add(e)
	if want := g.add(e); got != want {
		t.Fatalf("behind %v: Add(%+v) = %d, want %d", g.events, e, got, want)
	}
	checkBook(t, b, g)
}

// both gives a book and a ledger that have taken these events.
func both(t *testing.T, events ...api.Event) (*lender.Book, *ledger) {
	t.Helper()
	b, g := lender.New(), &ledger{}
	for _, e := range events {
		got := b.Add(e)
		if want := g.add(e); got != api.OK || want != api.OK {
			t.Fatalf("Add(%+v) = %d, want %d", e, got, want)
		}
	}
	return b, g
}

// filled gives a book and a ledger of so many events, on day 0 to 199.
func filled(t *testing.T, n int) (*lender.Book, *ledger) {
	t.Helper()
	var events []api.Event
	for i := 0; i < n; i++ {
		events = append(events, ev(i*11%64, i%3, i*7%50+1, i))
	}
	return both(t, events...)
}

// thrown gives an event that may be, on a day that is not below another: of one of so many loans, and often small, so that what is paid is now more, now less than what is due.
func thrown(d *dice, loans, day int) api.Event {
	e := ev(d.below(loans), d.below(3), 0, day)
	if d.below(3) > 0 {
		e.Day = min(day+d.below(120), 10000)
	}
	switch {
	case e.Kind == 2:
		e.Amount = d.below(1001)
	case d.below(4) == 0:
		e.Amount = 1 + d.below(100000000)
	default:
		e.Amount = 1 + d.below(30)
	}
	return e
}
