package sheet

import (
	"variorum/api"
	"variorum/book"
	"variorum/chart"
	"variorum/income"
	"variorum/trial"
)

// summing tells a sum, where it fits.
type summing func() (int, api.Errno)

// tell tells sums one by one, or the first error.
func tell(sums ...summing) ([]int, api.Errno) {
	told := make([]int, len(sums))
	for i, sum := range sums {
		x, err := sum()
		if err != api.OK {
			return nil, err
		}
		told[i] = x
	}
	return told, api.OK
}

// amounts are balances, as a part of a sheet has them.
type amounts []api.Balance

// sum tells all of them together.
func (a amounts) sum() (int, api.Errno) {
	return trial.Sum(a...)
}

// results are what a span of periods came to.
type results struct {
	chart *chart.Chart
	book  *book.Book
	of    trial.Of
}

// net tells what was earned less what was spent.
func (r results) net() (int, api.Errno) {
	if r.of.To < r.of.From { // no period is ahead of the first year
		return 0, api.OK
	}
	s, err := income.Make(r.chart, r.book, r.of)
	return s.Net, err
}

// turned tells balances with their signs turned.
func turned(l []api.Balance) []api.Balance {
	var other []api.Balance
	for _, x := range l {
		other = append(other, api.Balance{Account: x.Account, Amount: -x.Amount})
	}
	return other
}

// unknown tells the balances of accounts that the chart has not.
func unknown(c *chart.Chart, l []api.Balance) []api.Balance {
	var rest []api.Balance
	for _, x := range l {
		if _, there := c.Get(x.Account); !there {
			rest = append(rest, x)
		}
	}
	return rest
}
