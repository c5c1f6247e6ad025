package income_test

import (
	"math"
	"slices"
	"testing"

	"variorum/api"
	"variorum/book"
	"variorum/chart"
	"variorum/income"
	"variorum/trial"
)

const (
	most   = api.MaxMoney
	latest = api.MaxPeriod
)

type list = []api.Balance

func line(account, amount int) api.Line { return api.Line{Account: account, Amount: amount} }

func journal(id, entity, period int, lines ...api.Line) api.Journal {
	return api.Journal{Id: id, Entity: entity, Period: period, Lines: lines}
}

func void(j api.Journal) api.Journal {
	j.Void = true
	return j
}

func of(entity, from, to int) trial.Of { return trial.Of{Entity: entity, From: from, To: to} }

func balance(account, amount int) api.Balance { return api.Balance{Account: account, Amount: amount} }

// made makes a book that may be.
func made(t *testing.T, l ...api.Journal) *book.Book {
	t.Helper()
	b, err := book.Of(l...)
	if err != api.OK {
		t.Fatalf("book.Of: error %d", err)
	}
	return b
}

// charted has an account of each kind, a second Income and Expense, and an Income that is retired.
func charted(t *testing.T) *chart.Chart {
	t.Helper()
	c, err := chart.New(
		api.Account{Code: 100, Kind: api.Asset}, api.Account{Code: 200, Kind: api.Liability},
		api.Account{Code: 300, Kind: api.Equity}, api.Account{Code: 400, Kind: api.Income},
		api.Account{Code: 410, Kind: api.Income}, api.Account{Code: 500, Kind: api.Expense},
		api.Account{Code: 350, Kind: api.Expense}, api.Account{Code: 600, Kind: api.Income, Retired: true})
	if err != api.OK {
		t.Fatalf("chart.New: error %d", err)
	}
	return c
}

// standing has journals of entities 1 and 2, in several periods.
func standing(t *testing.T) *book.Book {
	t.Helper()
	return made(t,
		journal(1, 1, 5, line(100, 9), line(400, -9)),
		journal(2, 1, 6, line(500, 4), line(350, 2), line(100, -6)),
		journal(3, 1, 8, line(410, 2), line(500, -2)),
		void(journal(4, 1, 5, line(100, 90), line(400, -90))),
		journal(5, 2, 5, line(100, 1), line(600, -1)),
		journal(6, 1, 0, line(200, 3), line(400, -3)),
		journal(7, 1, latest, line(500, 7), line(300, -7)),
		journal(8, 1, 9, line(999, 11), line(300, -11)),
		journal(9, 3, 5, line(999, 11), line(400, -11)),
	)
}

func checkErr(t *testing.T, what string, got, want api.Errno) {
	t.Helper()
	if got != want {
		t.Errorf("%s: error %d, want %d", what, got, want)
	}
}

func checkStatement(t *testing.T, what string, got, want income.Statement) {
	t.Helper()
	if !slices.Equal(got.Income, want.Income) || !slices.Equal(got.Expense, want.Expense) ||
		got.Earned != want.Earned || got.Spent != want.Spent || got.Net != want.Net {
		t.Errorf("%s: %v, want %v", what, got, want)
	}
}

// statement makes one whose numbers are told one by one.
func statement(earnings, spendings list, earned, spent, net int) income.Statement {
	return income.Statement{Income: earnings, Expense: spendings, Earned: earned, Spent: spent, Net: net}
}

func checkOf(t *testing.T, l list, want income.Statement, wantErr api.Errno) {
	t.Helper()
	got, err := income.Of(charted(t), l)
	checkErr(t, "Of", err, wantErr)
	checkStatement(t, "Of", got, want)
}

func checkMake(t *testing.T, b *book.Book, o trial.Of, want income.Statement) {
	t.Helper()
	got, err := income.Make(charted(t), b, o)
	checkErr(t, "Make", err, api.OK)
	checkStatement(t, "Make", got, want)
}

func checkMonths(t *testing.T, b *book.Book, o trial.Of, want ...int) {
	t.Helper()
	got, err := income.Months(charted(t), b, o)
	checkErr(t, "Months", err, api.OK)
	if !slices.Equal(got, want) {
		t.Errorf("Months of %v: %v, want %v", o, got, want)
	}
}

func checkMakeRefused(t *testing.T, c *chart.Chart, b *book.Book, o trial.Of, want api.Errno) {
	t.Helper()
	s, err := income.Make(c, b, o)
	checkErr(t, "Make", err, want)
	checkStatement(t, "Make", s, income.Statement{})
}

func checkMonthsRefused(t *testing.T, c *chart.Chart, b *book.Book, o trial.Of, want api.Errno) {
	t.Helper()
	if nets, err := income.Months(c, b, o); len(nets) != 0 || err != want {
		t.Errorf("Months of %v: %v, %d, want none, %d", o, nets, err, want)
	}
}

// P1101

func TestOfExample(t *testing.T) {
	checkOf(t, list{balance(400, -9), balance(500, 4)},
		statement(list{balance(400, 9)}, list{balance(500, 4)}, 9, 4, 5), api.OK)
}

func TestOf(t *testing.T) {
	checkOf(t, list{balance(400, -9)}, statement(list{balance(400, 9)}, nil, 9, 0, 9), api.OK)
	checkOf(t, list{balance(500, 9)}, statement(nil, list{balance(500, 9)}, 0, 9, -9), api.OK)
	checkOf(t, list{balance(400, 9)}, statement(list{balance(400, -9)}, nil, -9, 0, -9), api.OK)
	checkOf(t, list{balance(500, -9)}, statement(nil, list{balance(500, -9)}, 0, -9, 9), api.OK)
	checkOf(t, list{balance(600, -2), balance(400, -1)},
		statement(list{balance(600, 2), balance(400, 1)}, nil, 3, 0, 3), api.OK)
	checkOf(t, list{balance(400, 0), balance(500, 0)}, statement(list{balance(400, 0)}, list{balance(500, 0)}, 0, 0, 0), api.OK)
}

// What is listed stays in its order, each as often as it stands there.
func TestOfKeepsTheOrder(t *testing.T) {
	l := list{balance(500, 1), balance(410, -5), balance(350, 2), balance(400, -7), balance(500, 4), balance(410, 1)}
	checkOf(t, l, statement(list{balance(410, 5), balance(400, 7), balance(410, -1)},
		list{balance(500, 1), balance(350, 2), balance(500, 4)}, 11, 7, 4), api.OK)
}

// Other kinds, and accounts that the chart has not, are on no side, also where they do not fit.
func TestOfOtherAccounts(t *testing.T) {
	others := list{balance(100, 7), balance(200, -8), balance(300, 9), balance(999, 5), balance(0, 1), balance(-400, 2),
		balance(100, math.MaxInt), balance(999, math.MinInt)}
	checkOf(t, others, income.Statement{}, api.OK)
	checkOf(t, append(others, balance(500, 3)), statement(nil, list{balance(500, 3)}, 0, 3, -3), api.OK)
}

func TestOfNothing(t *testing.T) {
	checkOf(t, nil, income.Statement{}, api.OK)
	checkOf(t, list{}, income.Statement{}, api.OK)
	s, err := income.Of(&chart.Chart{}, list{balance(400, -9), balance(500, math.MinInt)})
	checkErr(t, "Of a zero chart", err, api.OK)
	checkStatement(t, "Of a zero chart", s, income.Statement{})
}

func TestOfNoChart(t *testing.T) {
	for _, l := range []list{nil, {balance(400, -9)}, {balance(400, math.MinInt)}} {
		s, err := income.Of(nil, l)
		checkErr(t, "Of no chart", err, api.ErrArg)
		checkStatement(t, "Of no chart", s, income.Statement{})
	}
}

// The most of each of the three.
func TestOfTheMost(t *testing.T) {
	checkOf(t, list{balance(400, -most)}, statement(list{balance(400, most)}, nil, most, 0, most), api.OK)
	checkOf(t, list{balance(400, most)}, statement(list{balance(400, -most)}, nil, -most, 0, -most), api.OK)
	checkOf(t, list{balance(500, most)}, statement(nil, list{balance(500, most)}, 0, most, -most), api.OK)
	checkOf(t, list{balance(400, -most), balance(500, most)},
		statement(list{balance(400, most)}, list{balance(500, most)}, most, most, 0), api.OK)
	checkOf(t, list{balance(400, 1-most), balance(500, -1)},
		statement(list{balance(400, most-1)}, list{balance(500, -1)}, most-1, -1, most), api.OK)
}

func TestOfTooMuch(t *testing.T) {
	wrong := []list{
		{balance(400, -most), balance(410, -1)}, // Earned
		{balance(400, most), balance(400, 1)},   // Earned, below
		{balance(500, most), balance(350, 1)},   // Spent
		{balance(500, -most), balance(350, -1)}, // Spent, below
		{balance(400, -most), balance(500, -1)}, // Net alone
		{balance(400, most), balance(500, 1)},   // Net alone, below
		{balance(400, -most), balance(500, -most)},
		{balance(400, -most-1), balance(400, 1)}, // one that does not fit, though the sum does
		{balance(500, most+1), balance(500, -1)},
		{balance(400, -most), balance(410, -1), balance(500, 1)}, // Earned alone: Net would fit
		{balance(500, most), balance(350, 1), balance(400, -1)},  // Spent alone: Net would fit
		{balance(400, math.MinInt)}, {balance(400, math.MaxInt)},
		{balance(500, math.MinInt)}, {balance(500, math.MaxInt)},
		{balance(400, math.MinInt), balance(500, math.MinInt)},
		{balance(400, math.MinInt), balance(400, math.MinInt)},
	}
	for _, l := range wrong {
		checkOf(t, l, income.Statement{}, api.ErrMoney)
	}
}

// What comes to too much on the way may fit as a whole.
func TestOfTooMuchOnTheWay(t *testing.T) {
	checkOf(t, list{balance(400, -most), balance(410, -most), balance(400, most)},
		statement(list{balance(400, most), balance(410, most), balance(400, -most)}, nil, most, 0, most), api.OK)
	checkOf(t, list{balance(500, most), balance(350, most), balance(500, -most)},
		statement(nil, list{balance(500, most), balance(350, most), balance(500, -most)}, 0, most, -most), api.OK)
}

func TestMake(t *testing.T) {
	b := standing(t)
	checkMake(t, b, of(1, 5, 6), statement(list{balance(400, 9)}, list{balance(350, 2), balance(500, 4)}, 9, 6, 3))
	checkMake(t, b, of(1, 5, 8), statement(list{balance(400, 9), balance(410, -2)}, list{balance(350, 2), balance(500, 2)}, 7, 4, 3))
	checkMake(t, b, of(1, 8, 8), statement(list{balance(410, -2)}, list{balance(500, -2)}, -2, -2, 0))
	checkMake(t, b, of(2, 0, latest), statement(list{balance(600, 1)}, nil, 1, 0, 1))
	checkMake(t, b, of(1, 0, 0), statement(list{balance(400, 3)}, nil, 3, 0, 3))
	checkMake(t, b, of(1, latest, latest), statement(nil, list{balance(500, 7)}, 0, 7, -7))
	checkMake(t, b, of(1, 0, latest), statement(list{balance(400, 12), balance(410, -2)}, list{balance(350, 2), balance(500, 9)}, 10, 11, -1))
	checkMake(t, b, of(3, 5, 5), statement(list{balance(400, 11)}, nil, 11, 0, 11))
}

func TestMakeOfNothing(t *testing.T) {
	checkMake(t, standing(t), of(1, 7, 7), income.Statement{})
	checkMake(t, standing(t), of(1, 9, 9), income.Statement{})
	checkMake(t, standing(t), of(9, 0, latest), income.Statement{})
	checkMake(t, &book.Book{}, of(1, 0, latest), income.Statement{})
	s, err := income.Make(&chart.Chart{}, standing(t), of(1, 0, latest))
	checkErr(t, "Make of a zero chart", err, api.OK)
	checkStatement(t, "Make of a zero chart", s, income.Statement{})
}

// What is done to the book and to the chart afterwards counts.
func TestMakeFollows(t *testing.T) {
	b, c := standing(t), charted(t)
	checkErr(t, "Void", b.Void(1), api.OK)
	checkMake(t, b, of(1, 5, 6), statement(nil, list{balance(350, 2), balance(500, 4)}, 0, 6, -6))
	checkErr(t, "Retire", c.Retire(500), api.OK)
	checkErr(t, "Add", c.Add(999, api.Expense), api.OK)
	s, err := income.Make(c, b, of(1, 6, 9))
	checkErr(t, "Make", err, api.OK)
	checkStatement(t, "Make", s, statement(list{balance(410, -2)}, list{balance(350, 2), balance(500, 2), balance(999, 11)}, -2, 15, -17))
}

func TestMonths(t *testing.T) {
	b := standing(t)
	checkMonths(t, b, of(1, 5, 8), 9, -6, 0, 0)
	checkMonths(t, b, of(1, 6, 6), -6)
	checkMonths(t, b, of(1, 7, 7), 0)
	checkMonths(t, b, of(1, 0, 6), 3, 0, 0, 0, 0, 9, -6)
	checkMonths(t, b, of(1, latest-1, latest), 0, -7)
	checkMonths(t, b, of(2, 4, 6), 0, 1, 0)
	checkMonths(t, b, of(9, 4, 6), 0, 0, 0)
	checkMonths(t, &book.Book{}, of(1, 1, 2), 0, 0)
	all := make([]int, latest+1)
	all[0], all[5], all[6], all[latest] = 3, 9, -6, -7
	checkMonths(t, b, of(1, 0, latest), all...)
}

func TestWrongOf(t *testing.T) {
	wrong := []trial.Of{
		{}, of(0, 5, 5), of(-1, 5, 5), of(10, 5, 5), of(math.MinInt, 5, 5), of(math.MaxInt, 5, 5),
		of(1, -1, 5), of(1, 5, latest+1), of(1, -2, -1), of(1, latest+1, latest+2), of(1, latest, latest+1),
		of(1, math.MinInt, math.MaxInt), of(1, 0, math.MaxInt), of(1, math.MinInt, 5), of(1, math.MaxInt, math.MaxInt),
		of(1, math.MaxInt, math.MinInt), of(1, 6, 5), of(1, latest, 0), of(1, 5, -1),
	}
	c := charted(t)
	for _, o := range wrong {
		for _, b := range []*book.Book{standing(t), {}, nil, tooMuch(t)} {
			checkMakeRefused(t, c, b, o, api.ErrArg)
			checkMonthsRefused(t, c, b, o, api.ErrArg)
		}
	}
}

func TestNoChartOrBook(t *testing.T) {
	checkMakeRefused(t, nil, standing(t), of(1, 5, 6), api.ErrArg)
	checkMakeRefused(t, nil, nil, of(1, 5, 6), api.ErrArg)
	checkMakeRefused(t, nil, tooMuch(t), of(1, 5, 6), api.ErrArg)
	checkMakeRefused(t, charted(t), nil, of(1, 5, 6), api.ErrArg)
	checkMonthsRefused(t, nil, standing(t), of(1, 5, 6), api.ErrArg)
	checkMonthsRefused(t, nil, nil, of(1, 5, 6), api.ErrArg)
	checkMonthsRefused(t, nil, tooMuch(t), of(1, 5, 6), api.ErrArg)
	checkMonthsRefused(t, charted(t), nil, of(1, 5, 6), api.ErrArg)
}

// tooMuch has in periods 5 and 6 of entity 1 what fits by the month alone, in period 8 of it a Net alone that
// does not fit, and in period 5 of entity 2 an Asset alone that does not.
func tooMuch(t *testing.T) *book.Book {
	t.Helper()
	return made(t,
		journal(1, 1, 5, line(100, most), line(400, -most)),
		journal(2, 1, 6, line(200, most), line(400, -most)),
		journal(3, 1, 8, line(100, most), line(400, -most)),
		journal(4, 1, 8, line(300, most), line(500, -most)),
		journal(5, 2, 5, line(100, most), line(200, -most)),
		journal(6, 2, 5, line(100, most), line(300, -most)),
	)
}

func TestMakeOfTooMuch(t *testing.T) {
	b, c := tooMuch(t), charted(t)
	checkMake(t, b, of(1, 5, 5), statement(list{balance(400, most)}, nil, most, 0, most))
	checkMakeRefused(t, c, b, of(1, 5, 6), api.ErrMoney)
	checkMakeRefused(t, c, b, of(1, 8, 8), api.ErrMoney)
	checkMakeRefused(t, c, b, of(2, 5, 5), api.ErrMoney) // of Balances: no side has that account
	checkMakeRefused(t, &chart.Chart{}, b, of(2, 5, 5), api.ErrMoney)
}

// Each month is by itself: what all of them come to need not fit.
func TestMonthsOfTooMuch(t *testing.T) {
	b, c := tooMuch(t), charted(t)
	checkMonths(t, b, of(1, 5, 7), most, most, 0)
	checkMonthsRefused(t, c, b, of(1, 5, 8), api.ErrMoney)
	checkMonthsRefused(t, c, b, of(1, 8, 9), api.ErrMoney)
	checkMonths(t, b, of(1, 9, 9), 0)
	checkMonthsRefused(t, c, b, of(2, 5, 5), api.ErrMoney)
	checkMonthsRefused(t, c, b, of(2, 0, latest), api.ErrMoney)
}

// A month that does not fit counts, though all months together do.
func TestMonthsOfWhatFitsTogether(t *testing.T) {
	b := made(t,
		journal(1, 1, 5, line(100, most), line(400, -most)), journal(2, 1, 5, line(200, 1), line(400, -1)),
		journal(3, 1, 6, line(400, most), line(100, -most)))
	checkMake(t, b, of(1, 5, 6), statement(list{balance(400, 1)}, nil, 1, 0, 1))
	checkMonthsRefused(t, charted(t), b, of(1, 5, 6), api.ErrMoney)
}

// What is answered is new memory, and what is handed in stays (the rules for all packages).

func TestArgumentsStay(t *testing.T) {
	l := list{balance(400, -9), balance(500, 4), balance(77, 7)}
	c, b := charted(t), standing(t)
	accounts := c.All()
	income.Of(c, l[:2])
	income.Make(c, b, of(1, 0, latest))
	income.Months(c, b, of(1, 0, latest))
	if !slices.Equal(l, list{balance(400, -9), balance(500, 4), balance(77, 7)}) {
		t.Errorf("the list became %v", l)
	}
	if !slices.Equal(c.All(), accounts) || !b.Same(standing(t)) {
		t.Errorf("the chart became %v, the book %v", c.All(), b.All())
	}
}

func TestAnswersShareNothing(t *testing.T) {
	c, b := charted(t), standing(t)
	l := list{balance(400, -9), balance(500, 4)}
	s, _ := income.Of(c, l)
	clear(s.Income[:cap(s.Income)])
	if !slices.Equal(s.Expense, list{balance(500, 4)}) {
		t.Errorf("the other side became %v", s.Expense)
	}
	clear(s.Expense[:cap(s.Expense)])
	if !slices.Equal(l, list{balance(400, -9), balance(500, 4)}) {
		t.Errorf("the list became %v", l)
	}
	s, _ = income.Make(c, b, of(1, 5, 6))
	clear(s.Income[:cap(s.Income)])
	clear(s.Expense[:cap(s.Expense)])
	checkMake(t, b, of(1, 5, 6), statement(list{balance(400, 9)}, list{balance(350, 2), balance(500, 4)}, 9, 6, 3))
	nets, _ := income.Months(c, b, of(1, 5, 6))
	clear(nets[:cap(nets)])
	checkMonths(t, b, of(1, 5, 6), 9, -6)
}
