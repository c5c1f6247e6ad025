package trial_test

import (
	"math"
	"slices"
	"testing"

	"variorum/api"
	"variorum/book"
	"variorum/chart"
	"variorum/trial"
)

const (
	most   = api.MaxMoney
	latest = api.MaxPeriod
)

func line(account, amount int) api.Line { return api.Line{Account: account, Amount: amount} }

// with makes a line that has a partner.
func with(partner int, l api.Line) api.Line {
	l.Partner = partner
	return l
}

func journal(id, entity, period int, lines ...api.Line) api.Journal {
	return api.Journal{Id: id, Entity: entity, Period: period, Lines: lines}
}

func void(j api.Journal) api.Journal {
	j.Void = true
	return j
}

func of(entity, from, to int) trial.Of { return trial.Of{Entity: entity, From: from, To: to} }

func balance(account, amount int) api.Balance { return api.Balance{Account: account, Amount: amount} }

// made makes a book that may be.
func made(t *testing.T, l ...api.Journal) *book.Book {
	t.Helper()
	b, err := book.Of(l...)
	if err != api.OK {
		t.Fatalf("book.Of: error %d", err)
	}
	return b
}

// standing has journals of entities 1 and 2, in several periods.
func standing(t *testing.T) *book.Book {
	t.Helper()
	return made(t,
		journal(1, 1, 5, line(100, 5), with(2, line(200, -5))),
		journal(2, 1, 6, with(3, line(300, 7)), with(2, line(200, 5)), line(100, -12)),
		void(journal(3, 1, 5, with(2, line(100, 90)), with(4, line(500, -90)))),
		journal(4, 2, 5, with(1, line(100, 8)), line(300, -8)),
		journal(5, 1, 0, line(9999, 4), with(9, line(1, -4))),
		journal(6, 1, latest, line(100, 1), line(100, 2), with(9, line(400, -3))),
	)
}

func checkErr(t *testing.T, what string, got, want api.Errno) {
	t.Helper()
	if got != want {
		t.Errorf("%s: error %d, want %d", what, got, want)
	}
}

func checkList(t *testing.T, what string, got, want []api.Balance) {
	t.Helper()
	if !slices.Equal(got, want) {
		t.Errorf("%s: %v, want %v", what, got, want)
	}
}

func checkBalances(t *testing.T, b *book.Book, o trial.Of, want ...api.Balance) {
	t.Helper()
	got, err := trial.Balances(b, o)
	checkErr(t, "Balances", err, api.OK)
	checkList(t, "Balances", got, want)
}

func checkPartners(t *testing.T, b *book.Book, o trial.Of, want ...[2]int) {
	t.Helper()
	got, err := trial.Partners(b, o)
	checkErr(t, "Partners", err, api.OK)
	if !slices.Equal(got, want) {
		t.Errorf("Partners of %v: %v, want %v", o, got, want)
	}
}

// checkRefused tells whether Balances and Partners have an error, and nothing beside it.
func checkRefused(t *testing.T, b *book.Book, o trial.Of, want api.Errno) {
	t.Helper()
	list, err := trial.Balances(b, o)
	if len(list) != 0 || err != want {
		t.Errorf("Balances of %v: %v, %d, want none, %d", o, list, err, want)
	}
	partners, err := trial.Partners(b, o)
	if len(partners) != 0 || err != want {
		t.Errorf("Partners of %v: %v, %d, want none, %d", o, partners, err, want)
	}
}

// P1001

func TestBalancesExample(t *testing.T) {
	b := made(t, journal(1, 1, 5, line(100, 5), line(200, -5)))
	checkBalances(t, b, of(1, 5, 5), balance(100, 5), balance(200, -5))
}

func TestBalances(t *testing.T) {
	b := standing(t)
	checkBalances(t, b, of(1, 5, 5), balance(100, 5), balance(200, -5))
	checkBalances(t, b, of(1, 5, 6), balance(100, -7), balance(300, 7)) // account 200 comes to 0
	checkBalances(t, b, of(1, 6, 6), balance(100, -12), balance(200, 5), balance(300, 7))
	checkBalances(t, b, of(1, 6, latest-1), balance(100, -12), balance(200, 5), balance(300, 7))
	checkBalances(t, b, of(1, 0, latest), balance(1, -4), balance(100, -4), balance(300, 7), balance(400, -3), balance(9999, 4))
	checkBalances(t, b, of(1, 0, 0), balance(1, -4), balance(9999, 4))
	checkBalances(t, b, of(1, latest, latest), balance(100, 3), balance(400, -3))
	checkBalances(t, b, of(2, 0, latest), balance(100, 8), balance(300, -8))
}

func TestBalancesOfNothing(t *testing.T) {
	b := standing(t)
	checkBalances(t, b, of(3, 0, latest))
	checkBalances(t, b, of(9, 0, latest))
	checkBalances(t, b, of(1, 1, 4))
	checkBalances(t, b, of(1, 7, latest-1))
	checkBalances(t, b, of(2, 6, 6))
	checkBalances(t, &book.Book{}, of(1, 0, latest))
	checkBalances(t, made(t, void(journal(1, 1, 5, line(100, 5), line(200, -5)))), of(1, 0, latest))
	checkBalances(t, made(t, journal(1, 1, 5, line(100, 5), line(100, -5))), of(1, 0, latest))
}

// What is done to the book afterwards counts.
func TestBalancesFollowTheBook(t *testing.T) {
	b := standing(t)
	checkErr(t, "Void", b.Void(2), api.OK)
	checkBalances(t, b, of(1, 5, 6), balance(100, 5), balance(200, -5))
	checkErr(t, "Amend", b.Amend(journal(1, 2, 5, line(100, 5), line(200, -5))), api.OK)
	checkBalances(t, b, of(1, 5, 6))
	checkBalances(t, b, of(2, 5, 6), balance(100, 13), balance(200, -5), balance(300, -8))
}

func TestWrongOf(t *testing.T) {
	wrong := []trial.Of{
		{}, of(0, 5, 5), of(-1, 5, 5), of(10, 5, 5), of(math.MinInt, 5, 5), of(math.MaxInt, 5, 5), of(1+1<<32, 5, 5),
		of(1, -1, 5), of(1, 5, latest+1), of(1, -2, -1), of(1, latest+1, latest+2), of(1, latest+1, 5),
		of(1, math.MinInt, math.MaxInt), of(1, 0, math.MaxInt), of(1, math.MinInt, 5),
		of(1, 6, 5), of(1, latest, 0), of(1, 5, -1),
	}
	for _, o := range wrong {
		checkRefused(t, standing(t), o, api.ErrArg)
		checkRefused(t, &book.Book{}, o, api.ErrArg)
		checkRefused(t, nil, o, api.ErrArg)
	}
	checkRefused(t, nil, of(1, 5, 5), api.ErrArg)
}

// tooMuch has more in accounts 1 (of entity 1) and 4 (of entity 2) than fits, from period 5 to period 6.
func tooMuch(t *testing.T) *book.Book {
	t.Helper()
	return made(t,
		journal(1, 1, 5, with(2, line(1, most)), line(2, -most)),
		journal(2, 1, 6, line(1, 1), line(3, -1)),
		journal(3, 2, 5, line(3, most), line(4, -most)),
		journal(4, 2, 6, line(2, 1), with(1, line(4, -1))),
		journal(5, 1, 7, line(1, -1), line(2, 1)),
		journal(6, 3, 7, line(1, 1), line(4, -1)),
	)
}

func TestTooMuch(t *testing.T) {
	b := tooMuch(t)
	checkRefused(t, b, of(1, 5, 6), api.ErrMoney)
	checkRefused(t, b, of(2, 5, 6), api.ErrMoney)
	checkRefused(t, b, of(2, 0, latest), api.ErrMoney)
	checkRefused(t, b, of(1, 6, 5), api.ErrArg)
	checkBalances(t, b, of(1, 5, 5), balance(1, most), balance(2, -most))
	checkBalances(t, b, of(2, 5, 5), balance(3, most), balance(4, -most))
	checkBalances(t, b, of(1, 6, 6), balance(1, 1), balance(3, -1))
	checkBalances(t, b, of(3, 0, latest), balance(1, 1), balance(4, -1))
}

// What comes to too much on the way may fit as a whole.
func TestTooMuchOnTheWay(t *testing.T) {
	b := tooMuch(t)
	checkBalances(t, b, of(1, 5, 7), balance(1, most), balance(2, 1-most), balance(3, -1))
	checkPartners(t, b, of(1, 5, 7), [2]int{2, most})
	within := made(t, journal(1, 1, 5, line(1, most), line(1, most), line(1, most), line(1, -most), line(1, -most), line(2, -most)))
	checkBalances(t, within, of(1, 5, 5), balance(1, most), balance(2, -most))
}

// fullBook has MaxBook journals, of which each puts 4 times MaxMoney to account 1.
func fullBook(t *testing.T) *book.Book {
	t.Helper()
	b := &book.Book{}
	up, down := with(2, line(1, most)), with(3, line(2, -most))
	for id := 1; id <= api.MaxBook; id++ {
		checkErr(t, "Post", b.Post(journal(id, 1, 5, up, up, up, up, down, down, down, down)), api.OK)
	}
	return b
}

func TestFullBook(t *testing.T) {
	checkRefused(t, fullBook(t), of(1, 5, 5), api.ErrMoney)
	checkBalances(t, fullBook(t), of(1, 6, 6))
}

func checkSum(t *testing.T, want int, wantErr api.Errno, l ...api.Balance) {
	t.Helper()
	if got, err := trial.Sum(l...); got != want || err != wantErr {
		t.Errorf("Sum(%v) = %d, %d, want %d, %d", l, got, err, want, wantErr)
	}
}

func TestSum(t *testing.T) {
	checkSum(t, 0, api.OK)
	checkSum(t, 0, api.OK, []api.Balance{}...)
	checkSum(t, 5, api.OK, balance(1, 5))
	checkSum(t, -2, api.OK, balance(1, 5), balance(2, -7))
	checkSum(t, 10, api.OK, balance(1, 5), balance(1, 5))
	checkSum(t, most, api.OK, balance(1, most), balance(-7, 0))
	checkSum(t, most, api.OK, balance(1, most), balance(2, most), balance(3, -most))
	checkSum(t, -most, api.OK, balance(1, -most), balance(2, -most), balance(3, most))
	checkSum(t, 0, api.ErrMoney, balance(1, most), balance(2, 1))
	checkSum(t, 0, api.ErrMoney, balance(1, -most), balance(2, -1))
	checkSum(t, 0, api.ErrMoney, balance(1, most+1), balance(2, -1))
	checkSum(t, 0, api.ErrMoney, balance(1, math.MaxInt), balance(2, -math.MaxInt))
	checkSum(t, 0, api.ErrMoney, balance(1, math.MinInt))
}

func checkPlus(t *testing.T, a, b []api.Balance, want ...api.Balance) {
	t.Helper()
	for _, sides := range [2][2][]api.Balance{{a, b}, {b, a}} {
		got, err := trial.Plus(sides[0], sides[1])
		checkErr(t, "Plus", err, api.OK)
		checkList(t, "Plus", got, want)
	}
}

func checkPlusRefused(t *testing.T, a, b []api.Balance) {
	t.Helper()
	for _, sides := range [2][2][]api.Balance{{a, b}, {b, a}} {
		if got, err := trial.Plus(sides[0], sides[1]); len(got) != 0 || err != api.ErrMoney {
			t.Errorf("Plus(%v, %v) = %v, %d, want none, ErrMoney", sides[0], sides[1], got, err)
		}
	}
}

func TestPlus(t *testing.T) {
	type list = []api.Balance
	checkPlus(t, nil, nil)
	checkPlus(t, list{}, nil)
	checkPlus(t, list{balance(1, 5)}, nil, balance(1, 5))
	checkPlus(t, list{balance(1, 5), balance(3, -5)}, list{balance(2, 4), balance(3, 1)}, balance(1, 5), balance(2, 4), balance(3, -4))
	checkPlus(t, list{balance(9, 1), balance(3, 2)}, list{balance(5, 3), balance(1, 4)}, balance(1, 4), balance(3, 2), balance(5, 3), balance(9, 1))
	checkPlus(t, list{balance(1, 5), balance(2, 1)}, list{balance(1, -5)}, balance(2, 1))
	checkPlus(t, list{balance(1, 5)}, list{balance(1, -5)})
	checkPlus(t, list{balance(1, 0), balance(2, 0)}, list{balance(2, 0)})
	checkPlus(t, list{balance(5, 1), balance(5, 2), balance(5, 4)}, list{balance(5, 8), balance(5, 16)}, balance(5, 31))
	checkPlus(t, list{balance(5, 1), balance(4, 7), balance(5, -1)}, nil, balance(4, 7))
	checkPlus(t, list{balance(math.MaxInt, 1), balance(0, 2)}, list{balance(math.MinInt, 3), balance(-9, 4)},
		balance(math.MinInt, 3), balance(-9, 4), balance(0, 2), balance(math.MaxInt, 1))
	checkPlus(t, list{balance(1, most), balance(2, most)}, list{balance(3, most)}, balance(1, most), balance(2, most), balance(3, most))
	checkPlus(t, list{balance(1, most), balance(1, most)}, list{balance(1, -most)}, balance(1, most))
	checkPlus(t, list{balance(1, most)}, list{balance(1, -most)})
}

func TestPlusOfTooMuch(t *testing.T) {
	type list = []api.Balance
	checkPlusRefused(t, list{balance(1, most)}, list{balance(1, 1)})
	checkPlusRefused(t, list{balance(1, -most)}, list{balance(1, -1)})
	checkPlusRefused(t, list{balance(1, 2), balance(3, most)}, list{balance(3, 1), balance(4, 4)})
	checkPlusRefused(t, list{balance(1, most+1)}, nil)
	checkPlusRefused(t, list{balance(1, most+1)}, list{balance(1, -1)})
	checkPlusRefused(t, list{balance(1, math.MaxInt)}, list{balance(1, math.MinInt)})
	checkPlusRefused(t, list{balance(1, math.MaxInt)}, list{balance(1, -math.MaxInt)})
}

// charted has an account of each kind, 600 that is retired, and a second Asset.
func charted(t *testing.T) *chart.Chart {
	t.Helper()
	c, err := chart.New(
		api.Account{Code: 500, Kind: api.Expense}, api.Account{Code: 400, Kind: api.Income},
		api.Account{Code: 300, Kind: api.Equity}, api.Account{Code: 200, Kind: api.Liability},
		api.Account{Code: 100, Kind: api.Asset}, api.Account{Code: 150, Kind: api.Asset},
		api.Account{Code: 600, Kind: api.Income, Retired: true})
	checkErr(t, "chart.New", err, api.OK)
	return c
}

func TestPick(t *testing.T) {
	c := charted(t)
	all := []api.Balance{balance(400, 1), balance(150, 2), balance(999, 3), balance(100, 4), balance(500, 0),
		balance(150, 5), balance(600, 6), balance(0, 7), balance(-100, 8), balance(200, math.MinInt), balance(300, 10)}
	check := func(want []api.Balance, kinds ...int) {
		t.Helper()
		checkList(t, "Pick", trial.Pick(c, all, kinds...), want)
	}
	type list = []api.Balance
	check(list{balance(150, 2), balance(100, 4), balance(150, 5)}, api.Asset)
	check(list{balance(200, math.MinInt)}, api.Liability)
	check(list{balance(300, 10)}, api.Equity)
	check(list{balance(400, 1), balance(600, 6)}, api.Income)
	check(list{balance(500, 0)}, api.Expense)
	check(list{balance(400, 1), balance(500, 0), balance(600, 6)}, api.Expense, api.Income)
	check(list{balance(400, 1), balance(500, 0), balance(600, 6)}, api.Income, api.Expense, api.Income)
	check(nil)
	check(nil, 0)
	check(nil, 6, -1, math.MinInt, math.MaxInt)
	check(list{balance(300, 10)}, 0, api.Equity, 99)
	every := trial.Pick(c, all, 1, 2, 3, 4, 5)
	checkList(t, "of every kind", every, slices.DeleteFunc(slices.Clone(all), func(x api.Balance) bool {
		return x.Account == 999 || x.Account <= 0
	}))
}

func TestPickOfNothing(t *testing.T) {
	all := []api.Balance{balance(100, 1), balance(0, 2)}
	checkList(t, "no chart", trial.Pick(nil, all, 0, 1, 2, 3, 4, 5), nil)
	checkList(t, "a zero chart", trial.Pick(&chart.Chart{}, all, 0, 1, 2, 3, 4, 5), nil)
	checkList(t, "no balances", trial.Pick(charted(t), nil, 1, 2, 3, 4, 5), nil)
	checkList(t, "nothing at all", trial.Pick(nil, nil), nil)
}

// P1002

func TestPartners(t *testing.T) {
	b := standing(t)
	checkPartners(t, b, of(1, 5, 5), [2]int{2, -5})
	checkPartners(t, b, of(1, 5, 6), [2]int{3, 7}) // partner 2 comes to 0
	checkPartners(t, b, of(1, 6, 6), [2]int{2, 5}, [2]int{3, 7})
	checkPartners(t, b, of(1, 0, latest), [2]int{3, 7}, [2]int{9, -7})
	checkPartners(t, b, of(1, 0, 0), [2]int{9, -4})
	checkPartners(t, b, of(1, latest, latest), [2]int{9, -3})
	checkPartners(t, b, of(2, 0, latest), [2]int{1, 8})
	checkPartners(t, b, of(2, 6, latest))
	checkPartners(t, b, of(4, 0, latest))
	checkPartners(t, &book.Book{}, of(1, 0, latest))
	checkPartners(t, made(t, journal(1, 1, 5, line(100, 5), line(200, -5))), of(1, 0, latest))
}

// A partner's sum is told as it is, also one that is too great; only accounts come to ErrMoney.
func TestPartnersOfTooMuch(t *testing.T) {
	b := made(t, journal(1, 2, 6, with(1, line(1, most)), with(1, line(2, most)), with(3, line(3, -most)), with(3, line(4, -most))))
	checkPartners(t, b, of(2, 6, 6), [2]int{1, 2 * most}, [2]int{3, -2 * most})
	checkRefused(t, fullBook(t), of(1, 0, latest), api.ErrMoney)
}

// The greatest sums of partners that there can be: each line puts MaxMoney to an account of its own.
func TestPartnersOfFullBook(t *testing.T) {
	b := &book.Book{}
	for id := 1; id <= api.MaxBook; id++ {
		var lines []api.Line
		for i := range 4 {
			lines = append(lines, with(2, line(40*id+i, most)), with(3, line(40*id+i+4, -most)))
		}
		checkErr(t, "Post", b.Post(journal(id, 1, 5, lines...)), api.OK)
	}
	whole := 4 * api.MaxBook * most
	checkPartners(t, b, of(1, 5, 5), [2]int{2, whole}, [2]int{3, -whole})
}

// What is answered is new memory, and what is handed in stays (the rules for all packages).

func TestArgumentsStay(t *testing.T) {
	a := []api.Balance{balance(9, 1), balance(3, 2), balance(77, 7)}
	b := []api.Balance{balance(5, 3), balance(1, 4), balance(77, 7)}
	wasA, wasB := slices.Clone(a), slices.Clone(b)
	trial.Plus(a[:2], b[:2])
	trial.Plus(a[:2], nil)
	trial.Plus(nil, b[:2])
	trial.Sum(a...)
	c := charted(t)
	kinds := []int{api.Income, api.Asset, 77}
	accounts := c.All()
	trial.Pick(c, a, kinds[:2]...)
	checkList(t, "the first list", a, wasA)
	checkList(t, "the second list", b, wasB)
	if !slices.Equal(kinds, []int{api.Income, api.Asset, 77}) || !slices.Equal(c.All(), accounts) {
		t.Errorf("the kinds became %v, the chart %v", kinds, c.All())
	}
	x := standing(t)
	trial.Balances(x, of(1, 0, latest))
	trial.Partners(x, of(1, 0, latest))
	if !x.Same(standing(t)) {
		t.Errorf("the book became %v", x.All())
	}
}

func TestAnswersShareNothing(t *testing.T) {
	x := standing(t)
	list, _ := trial.Balances(x, of(1, 5, 5))
	clear(list[:cap(list)])
	checkBalances(t, x, of(1, 5, 5), balance(100, 5), balance(200, -5))
	partners, _ := trial.Partners(x, of(1, 5, 5))
	clear(partners[:cap(partners)])
	checkPartners(t, x, of(1, 5, 5), [2]int{2, -5})
	a := []api.Balance{balance(100, 2), balance(400, 3)}
	sum, _ := trial.Plus(a, nil)
	clear(sum[:cap(sum)])
	picked := trial.Pick(charted(t), a, api.Asset, api.Income)
	clear(picked[:cap(picked)])
	checkList(t, "the list", a, []api.Balance{balance(100, 2), balance(400, 3)})
}
