package rules

import (
	"variorum/api"
	"variorum/book"
)

// place is where amounts come together.
type place struct{ account, entity int }

// sumsOf tells the sums of a book by their places. MaxBook journals of MaxLines amounts that fit stay
// within a word, so that a sum needs no look on its way.
func sumsOf(b *book.Book) map[place]int {
	sums := make(map[place]int)
	for _, j := range b.All() {
		if !j.Void {
			addLines(sums, j)
		}
	}
	return sums
}

func addLines(sums map[place]int, j api.Journal) {
	for _, l := range j.Lines {
		sums[place{l.Account, j.Entity}] += l.Amount
	}
}
