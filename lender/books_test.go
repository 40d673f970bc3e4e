package lender_test

import (
	"fmt"
	"testing"

	"lender/api"
	"lender/lender"
)

// P2 for the book: what comes out of it is the caller's own, and its answers hang on its own events alone.

// spoilLog writes into a log and into all its spare room.
func spoilLog(l []string) {
	l = l[:cap(l)]
	for i := range l {
		l[i] = "spoilt"
	}
}

func TestP2LogsAreTheCallersOwn(t *testing.T) {
	d := &dice{21}
	b, g := both(t)
	kept := [][]string{b.Log()}
	for day := 0; len(g.events) < 200; day = g.events[len(g.events)-1].Day {
		spoilLog(b.Log())
		checkAdd(t, b, g, thrown(d, 64, day))
		kept = append(kept, b.Log())
	}
	// Each log is spoilt in turn, the last ones first: those ahead, and the answers to come, stay as they are.
	for n := 200; n >= 0; n-- {
		if fmt.Sprintf("%q", kept[n]) != fmt.Sprintf("%q", append([]string{}, g.log()[:n]...)) {
			t.Fatalf("a later call, or writing into a later log, changed the log of %d events", n)
		}
		spoilLog(kept[n])
		checkBook(t, b, g)
	}
}

func TestP2TwoLogsOfOneBook(t *testing.T) {
	for _, n := range []int{1, 2, 3, 5, 8, 100, 200} {
		b, g := filled(t, n)
		one, other := b.Log(), b.Log()
		spoilLog(one)
		if fmt.Sprintf("%q", other) != fmt.Sprintf("%q", g.log()) {
			t.Errorf("two logs of a book of %d events share their room", n)
		}
	}
}

// A log from ahead of an event is written into and behind its end, ahead of the event and after it: the book goes on as if it were not.
func TestP2ALogIsNotTheBooks(t *testing.T) {
	for _, n := range []int{0, 1, 2, 3, 4, 7, 8, 127, 128, 199} {
		b, g := filled(t, n)
		l := b.Log()
		_ = append(l, "spoilt")
		checkAdd(t, b, g, ev(9, 1, 5, 300))
		_ = append(l, "spoilt")
		spoilLog(l)
		checkBook(t, b, g)
	}
}

func TestP2BooksDoNotTouchOneAnother(t *testing.T) {
	d := &dice{22}
	var books []*lender.Book
	var ledgers []*ledger
	for round := 0; round < 600; round++ {
		if round%100 == 0 {
			b, g := both(t)
			books, ledgers = append(books, b), append(ledgers, g)
		}
		i := d.below(len(books))
		day := 0
		if n := len(ledgers[i].events); n > 0 {
			day = ledgers[i].events[n-1].Day
		}
		checkAdd(t, books[i], ledgers[i], thrown(d, 5, day))
		j := d.below(len(books))
		checkBook(t, books[j], ledgers[j])
	}
	for i := range books {
		checkBook(t, books[i], ledgers[i])
	}
}

// others calls what must not change a book's answers: its own calls that take no event, and those of other books.
func others(b *lender.Book) {
	b.Add(ev(64, 0, 1, 10000))
	b.Add(ev(0, 0, 0, 10000))
	b.Add(ev(0, 0, 1, -1))
	b.State(-1)
	b.State(64)
	a, _ := b.Account(3)
	b.Lie(a)
	lender.Accepts(b.Head().Top, a)
	other := lender.New()
	other.Add(ev(3, 0, 77, 5000))
	other.Lie(a)
	other.Head()
	l := b.Log()
	lender.Root(l)
	lender.Path(l, 0)
	lender.Twins(l, other.Log(), nil)
}

func TestP2TheBookAnswersTheSameEachTime(t *testing.T) {
	for _, n := range []int{0, 1, 2, 13, 64, 199, 200} {
		quiet, g := filled(t, n)
		asked := lender.New()
		for _, e := range g.events {
			others(asked)
			if err := asked.Add(e); err != api.OK {
				t.Fatalf("Add(%+v) = %d behind other calls", e, err)
			}
		}
		for round := 0; round < 3; round++ {
			checkBook(t, quiet, g)
			checkBook(t, asked, g)
			others(quiet)
			others(asked)
		}
	}
}
