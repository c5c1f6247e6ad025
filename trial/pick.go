package trial

import (
	"slices"

	"variorum/api"
	"variorum/book"
	"variorum/term"
)

// picker tells the lines of a journal that count.
type picker func(api.Journal) []api.Line

// gather tells the lines that are picked of all journals of a book.
func gather(b *book.Book, pick picker) []api.Line {
	var all []api.Line
	for _, j := range b.All() {
		all = append(all, pick(j)...)
	}
	return all
}

func (o Of) mayBe() bool {
	return o.Entity >= 1 && o.Entity <= api.MaxEntity && term.Valid(o.From, o.To) && o.From <= o.To
}

func (o Of) covers(j api.Journal) bool {
	return !j.Void && j.Entity == o.Entity && j.Period >= o.From && j.Period <= o.To
}

// lines picks all lines of a journal that is covered.
func (o Of) lines(j api.Journal) []api.Line {
	if !o.covers(j) {
		return nil
	}
	return j.Lines
}

// partnerLines picks those of them that have a Partner.
func (o Of) partnerLines(j api.Journal) []api.Line {
	var picked []api.Line
	for _, l := range o.lines(j) {
		if l.Partner != 0 {
			picked = append(picked, l)
		}
	}
	return picked
}

// accounts are codes, rising.
type accounts []int

// have tells whether a balance is of one of the accounts.
func (a accounts) have(x api.Balance) bool {
	_, there := slices.BinarySearch(a, x.Account)
	return there
}
