package plan

import (
	"variorum/api"
	"variorum/entry"
	"variorum/money"
	"variorum/term"
)

// kind is what templates of one kind have of their own.
type kind struct {
	mayBe    func(Template) bool
	journals func(t Template, period, id int) ([]api.Journal, api.Errno)
}

// kindOf tells the kind of a number, and whether there is such a kind.
func kindOf(number int) (kind, bool) {
	switch number {
	case Accrual:
		return kind{mayBe: Template.accrualMayBe, journals: Template.accrue}, true
	case Allocation:
		return kind{mayBe: Template.allocationMayBe, journals: Template.allocate}, true
	}
	return kind{}, false
}

func (t Template) accrualMayBe() bool {
	return isAccount(t.Debit) && t.Debit != t.Credit && len(t.Targets) == 0 && len(t.Weights) == 0
}

// allocationMayBe leaves Debit alone: the targets stand in its place.
func (t Template) allocationMayBe() bool {
	// Credit has a line too.
	if !within(len(t.Targets), 1, api.MaxLines-1) || len(t.Weights) != len(t.Targets) || !t.targetsMayBe() {
		return false
	}
	_, err := money.Split(t.Amount, t.Weights...)
	return err == api.OK
}

// targetsMayBe tells whether targets are accounts that rise, of which none is Credit.
func (t Template) targetsMayBe() bool {
	before := 0
	for _, code := range t.Targets {
		if !isAccount(code) || code <= before || code == t.Credit {
			return false
		}
		before = code
	}
	return true
}

// accrue posts the amount, and undoes it in the next period.
func (t Template) accrue(period, id int) ([]api.Journal, api.Errno) {
	first := t.journal(period, id, api.Line{Account: t.Debit, Amount: t.Amount})
	next, err := term.Shift(period, 1)
	if err != api.OK { // it stays as it is in the last month that there is
		return []api.Journal{first}, api.OK
	}
	back, err := entry.Reverse(first, id+1, next)
	if err != api.OK {
		return nil, err
	}
	return []api.Journal{first, back}, api.OK
}

// allocate posts each target's part of the amount. What is 0 has no line, for no line may be of 0.
func (t Template) allocate(period, id int) ([]api.Journal, api.Errno) {
	parts, err := money.Split(t.Amount, t.Weights...)
	if err != api.OK {
		return nil, err
	}
	var lines []api.Line
	for i, part := range parts {
		if part != 0 {
			lines = append(lines, api.Line{Account: t.Targets[i], Amount: part})
		}
	}
	return []api.Journal{t.journal(period, id, lines...)}, api.OK
}

// journal has debits, and Credit by the amount behind them.
func (t Template) journal(period, id int, debits ...api.Line) api.Journal {
	lines := append(debits, api.Line{Account: t.Credit, Amount: -t.Amount})
	return api.Journal{Id: id, Entity: t.Entity, Period: period, Lines: lines}
}
