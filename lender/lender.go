// Package lender: a book of loans that can be checked: see DOC.md.
package lender

import (
	"lender/accounts"
	"lender/api"
	"lender/loans"
	"lender/logs"
	"lender/sums"
	"lender/twins"
)

// Book is a book of loans.
type Book struct {
	// Everything that the book answers follows from these, so nothing else is kept.
	events []api.Event
}

// Sum sums a text up (P3).
func Sum(s string) int { return sums.Sum(s) }

// Root sums a log up (P4).
func Root(l []string) (int, api.Errno) {
	if logs.TooLong(l) {
		return 0, api.ErrLong
	}
	return logs.Root(l), api.OK
}

// Path gives the proof that an entry is in a log (P5).
func Path(l []string, i int) ([]int, api.Errno) {
	if logs.TooLong(l) {
		return nil, api.ErrLong
	}
	if i < 0 || i >= len(l) {
		return nil, api.ErrArg
	}
	return logs.Path(l, i), api.OK
}

// Within checks such a proof (P6).
func Within(root int, n int, i int, entry string, path []int) bool {
	if n < 1 || n > api.MaxLog || i < 0 || i >= n {
		return false
	}
	if len(entry) > api.MaxEntry {
		return false
	}
	start := sums.EntryText(entry)
	text, ok := logs.Leads(n, i, start, path)
	return ok && sums.Sum(text) == root
}

// Further gives the proof that a log goes on from its beginning (P7).
func Further(l []string, m int) ([]int, api.Errno) {
	if logs.TooLong(l) {
		return nil, api.ErrLong
	}
	if m < 1 || m > len(l) {
		return nil, api.ErrArg
	}
	return logs.Further(l, m, true), api.OK
}

// Grows checks such a proof (P8).
func Grows(old int, m int, root int, n int, path []int) bool {
	if m < 1 || m > n || n > api.MaxLog {
		return false
	}
	x, y, ok := logs.Joins(m, n, old, true, path)
	return ok && x == old && y == root
}

// Twin gives away a false proof that an entry is in a log (P9).
func Twin(l []string, i int, entry string, path []int) (string, string, api.Errno) {
	root, err := Root(l)
	if err != api.OK {
		return "", "", err
	}
	if i < 0 || i >= len(l) {
		return "", "", api.ErrArg
	}
	if entry == l[i] || !Within(root, len(l), i, entry, path) {
		return "", "", api.ErrCalm
	}
	shown, there := twins.OfEntry(l, i, entry, path)
	return shown, there, api.OK
}

// Twins gives away a false proof that a log goes on from another (P10).
func Twins(a []string, b []string, path []int) (string, string, api.Errno) {
	old, err := Root(a)
	if err != api.OK {
		return "", "", err
	}
	root, err := Root(b)
	if err != api.OK {
		return "", "", err
	}
	accepted := Grows(old, len(a), root, len(b), path)
	if !accepted || logs.Begins(a, b) {
		return "", "", api.ErrCalm
	}
	one, other := twins.OfLogs(a, b, true, path)
	return one, other, api.OK
}

// New makes an empty book (P11).
func New() *Book { return &Book{} }

// Add adds an event (P11).
func (b *Book) Add(e api.Event) api.Errno {
	size := len(b.events)
	if size >= api.MaxLog {
		return api.ErrFull
	}
	if !loans.MayBe(e) {
		return api.ErrEvent
	}
	if size > 0 && e.Day < b.events[size-1].Day {
		return api.ErrDay
	}
	b.events = append(b.events, e)
	return api.OK
}

// Size tells how many events there are (P12).
func (b *Book) Size() int { return len(b.events) }

// State tells a loan's state (P12).
func (b *Book) State(loan int) (api.State, api.Errno) {
	if loan < 0 || loan >= api.Loans {
		return api.State{}, api.ErrArg
	}
	return loans.State(b.events, loan), api.OK
}

// Log tells the entries (P13).
func (b *Book) Log() []string { return loans.Entries(b.events) }

// Head tells the head (P13).
func (b *Book) Head() api.Head {
	size := len(b.events)
	entries := loans.Entries(b.events)
	log := logs.Root(entries)
	states := loans.States(b.events)
	all := loans.Sum(states)
	text := loans.HeadText(size, log, all)
	return api.Head{Size: size, Log: log, Map: all, Top: sums.Sum(text)}
}

// Account gives a loan's account (P14).
func (b *Book) Account(loan int) (api.Account, api.Errno) {
	state, err := b.State(loan)
	if err != api.OK {
		return api.Account{}, err
	}
	head := b.Head()
	states := loans.States(b.events)
	path := loans.Path(states, loan)
	return api.Account{Loan: loan, State: state, Size: head.Size, Log: head.Log, Path: path}, api.OK
}

// Accepts checks an account (P15).
func Accepts(top int, a api.Account) bool {
	if !accounts.MayBe(a) {
		return false
	}
	return accounts.Shows(a) == top
}

// Lie gives away a false account (P16).
func (b *Book) Lie(a api.Account) (string, string, api.Errno) {
	head := b.Head()
	if !Accepts(head.Top, a) {
		return "", "", api.ErrCalm
	}
	// There is no error: what is accepted is of a loan that there is.
	own, _ := b.Account(a.Loan)
	// Another path alone is no lie: what is said of the loan is true.
	if a.Size == own.Size && a.Log == own.Log && a.State == own.State {
		return "", "", api.ErrCalm
	}
	shown, there := twins.OfAccount(a, own)
	return shown, there, api.OK
}
