package income

import (
	"variorum/api"
	"variorum/chart"
	"variorum/trial"
)

// charted is balances, with the chart that knows their kinds.
type charted struct {
	chart *chart.Chart
	list  []api.Balance
}

// income picks what was earned, a credit above 0.
func (c charted) income() []api.Balance {
	// Picked balances are new memory, so that they may be turned where they stand.
	picked := trial.Pick(c.chart, c.list, api.Income)
	for i := range picked {
		picked[i].Amount = -picked[i].Amount
	}
	return picked
}

// expense picks what was spent, a debit above 0.
func (c charted) expense() []api.Balance {
	return trial.Pick(c.chart, c.list, api.Expense)
}

// side picks a side of a statement.
type side func() []api.Balance

// total tells a side, and its sum.
func total(pick side) ([]api.Balance, int, api.Errno) {
	picked := pick()
	sum, err := trial.Sum(picked...)
	return picked, sum, err
}
