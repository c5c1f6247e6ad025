package rules

import (
	"variorum/api"
	"variorum/book"
	"variorum/entry"
	"variorum/money"
)

// question asks one thing, and tells the error that stands against it.
type question func() api.Errno

// ask asks one question behind the other, up to the first one that has an error: a later one may lean
// on what an earlier one found.
func ask(questions ...question) api.Errno {
	for _, q := range questions {
		if err := q(); err != api.OK {
			return err
		}
	}
	return api.OK
}

// wish is what is to be done to the Book.
type wish struct {
	rules   Rules
	id      int
	journal api.Journal // what is to be posted, or to take the old one's place
	old     api.Journal // what stands under id, once findsLive was asked
	then    *book.Book  // what the Book would be, once posts, amends or voids was asked
}

func (w *wish) hasParts() api.Errno {
	if w.rules.Chart == nil || w.rules.Gates == nil || w.rules.Book == nil {
		return api.ErrArg
	}
	return api.OK
}

func (w *wish) mayBe() api.Errno {
	return entry.Check(w.journal)
}

func (w *wish) accountsAreLive() api.Errno {
	codes := make([]int, len(w.journal.Lines))
	for i, l := range w.journal.Lines {
		codes[i] = l.Account
	}
	return w.rules.Chart.Live(codes...)
}

// findsLive looks up the one that is there, and is not void.
func (w *wish) findsLive() api.Errno {
	old, there := w.rules.Book.Get(w.id)
	if !there {
		return api.ErrNone
	}
	if old.Void {
		return api.ErrState
	}
	w.old = old
	return api.OK
}

func (w *wish) oldPeriodIsOpen() api.Errno {
	return w.rules.Gates.May(w.old.Entity, w.old.Period)
}

func (w *wish) periodIsOpen() api.Errno {
	return w.rules.Gates.May(w.journal.Entity, w.journal.Period)
}

func (w *wish) isNotVoid() api.Errno {
	if w.journal.Void {
		return api.ErrArg
	}
	return api.OK
}

func (w *wish) keepsEntity() api.Errno {
	if w.journal.Entity != w.old.Entity {
		return api.ErrArg
	}
	return api.OK
}

// posts tries it on a copy, for the Book itself stays as it is.
func (w *wish) posts() api.Errno {
	w.then = w.rules.Book.Copy()
	return w.then.Post(w.journal)
}

func (w *wish) amends() api.Errno {
	w.then = w.rules.Book.Copy()
	return w.then.Amend(w.journal)
}

func (w *wish) voids() api.Errno {
	w.then = w.rules.Book.Copy()
	return w.then.Void(w.id)
}

// sumsFit looks at all sums, not at those alone that are changed: one that did not fit before counts too.
func (w *wish) sumsFit() api.Errno {
	for _, sum := range sumsOf(w.then) {
		if !money.Fits(sum) {
			return api.ErrMoney
		}
	}
	return api.OK
}
