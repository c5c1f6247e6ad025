package sheet_test

import (
	"math"
	"slices"
	"testing"

	"variorum/api"
	"variorum/book"
	"variorum/chart"
	"variorum/sheet"
)

const (
	most   = api.MaxMoney
	latest = api.MaxPeriod
)

type list = []api.Balance

func line(account, amount int) api.Line { return api.Line{Account: account, Amount: amount} }

func journal(id, entity, period int, lines ...api.Line) api.Journal {
	return api.Journal{Id: id, Entity: entity, Period: period, Lines: lines}
}

func void(j api.Journal) api.Journal {
	j.Void = true
	return j
}

func balance(account, amount int) api.Balance { return api.Balance{Account: account, Amount: amount} }

// made makes a book that may be.
func made(t *testing.T, l ...api.Journal) *book.Book {
	t.Helper()
	b, err := book.Of(l...)
	if err != api.OK {
		t.Fatalf("book.Of: error %d", err)
	}
	return b
}

// charted has two accounts of each kind that a sheet lists, an Income, an Expense, and an Asset that is retired.
func charted(t *testing.T) *chart.Chart {
	t.Helper()
	c, err := chart.New(
		api.Account{Code: 100, Kind: api.Asset}, api.Account{Code: 150, Kind: api.Asset},
		api.Account{Code: 200, Kind: api.Liability}, api.Account{Code: 250, Kind: api.Liability},
		api.Account{Code: 300, Kind: api.Equity}, api.Account{Code: 350, Kind: api.Equity},
		api.Account{Code: 400, Kind: api.Income}, api.Account{Code: 500, Kind: api.Expense},
		api.Account{Code: 600, Kind: api.Asset, Retired: true})
	if err != api.OK {
		t.Fatalf("chart.New: error %d", err)
	}
	return c
}

// standing has journals of entities 1 and 2, in the years 2000, 2001, 2003 and 2099.
func standing(t *testing.T) *book.Book {
	t.Helper()
	return made(t,
		journal(1, 1, 0, line(100, 50), line(300, -30), line(200, -20)),
		journal(2, 1, 5, line(150, 9), line(400, -9)),
		journal(3, 1, 11, line(500, 4), line(100, -4)),
		journal(4, 1, 12, line(100, 7), line(400, -7)),
		journal(5, 1, 23, line(500, 2), line(250, -2)),
		void(journal(6, 1, 12, line(100, 90), line(400, -90))),
		journal(7, 1, 36, line(999, 3), line(998, -8), line(350, 5)),
		journal(8, 1, latest, line(600, 1), line(400, -1)),
		journal(9, 2, 12, line(500, 6), line(100, -6)),
	)
}

func checkErr(t *testing.T, what string, got, want api.Errno) {
	t.Helper()
	if got != want {
		t.Errorf("%s: error %d, want %d", what, got, want)
	}
}

func checkSheet(t *testing.T, what string, got, want sheet.Sheet) {
	t.Helper()
	if !slices.Equal(got.Assets, want.Assets) || !slices.Equal(got.Liabilities, want.Liabilities) ||
		!slices.Equal(got.Equity, want.Equity) || sixOf(got) != sixOf(want) {
		t.Errorf("%s: %v, want %v", what, got, want)
	}
}

func sixOf(s sheet.Sheet) [6]int {
	return [6]int{s.Owned, s.Owed, s.Held, s.Retained, s.Current, s.Other}
}

// of makes a sheet of six sums.
func of(owned, owed, held, retained, current, other int) sheet.Sheet {
	return sheet.Sheet{Owned: owned, Owed: owed, Held: held, Retained: retained, Current: current, Other: other}
}

// with makes it have lists, too.
func with(s sheet.Sheet, assets, liabilities, equity list) sheet.Sheet {
	s.Assets, s.Liabilities, s.Equity = assets, liabilities, equity
	return s
}

func checkMake(t *testing.T, b *book.Book, entity, period int, want sheet.Sheet) {
	t.Helper()
	got, err := sheet.Make(charted(t), b, entity, period)
	checkErr(t, "Make", err, api.OK)
	checkSheet(t, "Make", got, want)
	if !sheet.Holds(got) {
		t.Errorf("%v does not hold", got)
	}
}

func checkMakeRefused(t *testing.T, c *chart.Chart, b *book.Book, entity, period int, want api.Errno) {
	t.Helper()
	s, err := sheet.Make(c, b, entity, period)
	checkErr(t, "Make", err, want)
	checkSheet(t, "Make", s, sheet.Sheet{})
}

func checkRoll(t *testing.T, b *book.Book, entity, year int, want [3]int, wantErr api.Errno) {
	t.Helper()
	ahead, net, both, err := sheet.Roll(charted(t), b, entity, year)
	if got := [3]int{ahead, net, both}; got != want || err != wantErr {
		t.Errorf("Roll of %d: %v, %d, want %v, %d", year, got, err, want, wantErr)
	}
}

// P1201

func TestMakeExample(t *testing.T) {
	b := made(t, journal(1, 1, 5, line(100, 5), line(400, -5)))
	checkMake(t, b, 1, 5, with(of(5, 0, 0, 0, 5, 0), list{balance(100, 5)}, nil, nil))
}

func TestMake(t *testing.T) {
	b := standing(t)
	checkMake(t, b, 1, 0, with(of(50, 20, 30, 0, 0, 0), list{balance(100, 50)}, list{balance(200, 20)}, list{balance(300, 30)}))
	checkMake(t, b, 1, 4, with(of(50, 20, 30, 0, 0, 0), list{balance(100, 50)}, list{balance(200, 20)}, list{balance(300, 30)}))
	checkMake(t, b, 1, 5, with(of(59, 20, 30, 0, 9, 0),
		list{balance(100, 50), balance(150, 9)}, list{balance(200, 20)}, list{balance(300, 30)}))
	checkMake(t, b, 2, 12, with(of(-6, 0, 0, 0, -6, 0), list{balance(100, -6)}, nil, nil))
	checkMake(t, b, 2, latest, with(of(-6, 0, 0, -6, 0, 0), list{balance(100, -6)}, nil, nil))
}

// A year's last month counts all of it as current, the next month none of it.
func TestMakeOverYears(t *testing.T) {
	b := standing(t)
	owed, held := list{balance(200, 20)}, list{balance(300, 30)}
	checkMake(t, b, 1, 11, with(of(55, 20, 30, 0, 5, 0), list{balance(100, 46), balance(150, 9)}, owed, held))
	checkMake(t, b, 1, 12, with(of(62, 20, 30, 5, 7, 0), list{balance(100, 53), balance(150, 9)}, owed, held))
	owed = append(owed, balance(250, 2))
	checkMake(t, b, 1, 23, with(of(62, 22, 30, 5, 5, 0), list{balance(100, 53), balance(150, 9)}, owed, held))
	checkMake(t, b, 1, 24, with(of(62, 22, 30, 10, 0, 0), list{balance(100, 53), balance(150, 9)}, owed, held))
	checkMake(t, b, 1, 35, with(of(62, 22, 30, 10, 0, 0), list{balance(100, 53), balance(150, 9)}, owed, held))
	held = append(held, balance(350, -5))
	checkMake(t, b, 1, 36, with(of(62, 22, 25, 10, 0, 5), list{balance(100, 53), balance(150, 9)}, owed, held))
	checkMake(t, b, 1, latest-1, with(of(62, 22, 25, 10, 0, 5), list{balance(100, 53), balance(150, 9)}, owed, held))
	checkMake(t, b, 1, latest, with(of(63, 22, 25, 10, 1, 5), list{balance(100, 53), balance(150, 9), balance(600, 1)}, owed, held))
}

// What stands in accounts that the chart has not is Other, a credit above 0.
func TestMakeOfOthers(t *testing.T) {
	checkMake(t, made(t, journal(1, 1, 5, line(999, 5), line(100, -5))), 1, 5,
		with(of(-5, 0, 0, 0, 0, -5), list{balance(100, -5)}, nil, nil))
	b := made(t, journal(1, 1, 5, line(998, -5), line(400, 3), line(997, 2)), journal(2, 1, 30, line(998, 1), line(1, -1)))
	checkMake(t, b, 1, 5, of(0, 0, 0, 0, -3, 3))
	checkMake(t, b, 1, 30, of(0, 0, 0, -3, 0, 3))
	s, err := sheet.Make(&chart.Chart{}, standing(t), 1, latest)
	checkErr(t, "Make of a zero chart", err, api.OK)
	checkSheet(t, "Make of a zero chart", s, sheet.Sheet{})
	s, err = sheet.Make(&chart.Chart{}, made(t, journal(1, 1, 5, line(100, 5), line(200, -5))), 1, 5)
	checkErr(t, "Make of a zero chart", err, api.OK)
	checkSheet(t, "Make of a zero chart", s, sheet.Sheet{})
}

func TestMakeOfNothing(t *testing.T) {
	checkMake(t, standing(t), 9, latest, sheet.Sheet{})
	checkMake(t, standing(t), 2, 11, sheet.Sheet{})
	checkMake(t, &book.Book{}, 1, 0, sheet.Sheet{})
	checkMake(t, made(t, journal(1, 1, 5, line(100, 5), line(100, -5))), 1, 5, sheet.Sheet{})
}

// What is done to the book and to the chart afterwards counts.
func TestMakeFollows(t *testing.T) {
	b, c := standing(t), charted(t)
	checkErr(t, "Void", b.Void(1), api.OK)
	checkMake(t, b, 1, 12, with(of(12, 0, 0, 5, 7, 0), list{balance(100, 3), balance(150, 9)}, nil, nil))
	checkErr(t, "Retire", c.Retire(100), api.OK)
	checkErr(t, "Add", c.Add(999, api.Liability), api.OK)
	s, err := sheet.Make(c, b, 1, 36)
	checkErr(t, "Make", err, api.OK)
	checkSheet(t, "Make", s, with(of(12, -1, -5, 10, 0, 8), list{balance(100, 3), balance(150, 9)},
		list{balance(250, 2), balance(999, -3)}, list{balance(350, -5)}))
}

func TestMakeRefuses(t *testing.T) {
	c, b := charted(t), standing(t)
	wrong := [][2]int{{0, 5}, {-1, 5}, {10, 5}, {math.MinInt, 5}, {math.MaxInt, 5}, {1, -1}, {1, latest + 1},
		{1, -12}, {1, math.MinInt}, {1, math.MaxInt}, {0, -1}}
	for _, x := range wrong {
		checkMakeRefused(t, c, b, x[0], x[1], api.ErrArg)
		checkMakeRefused(t, c, tooMuch(t), x[0], x[1], api.ErrArg)
	}
	checkMakeRefused(t, nil, b, 1, 5, api.ErrArg)
	checkMakeRefused(t, c, nil, 1, 5, api.ErrArg)
	checkMakeRefused(t, nil, nil, 1, 5, api.ErrArg)
	checkMakeRefused(t, nil, tooMuch(t), 6, 5, api.ErrArg)
	checkMakeRefused(t, nil, &book.Book{}, 1, 5, api.ErrArg)
}

// tooMuch has of each entity another one of the sums that alone is too great, in period 5.
func tooMuch(t *testing.T) *book.Book {
	t.Helper()
	return made(t,
		journal(1, 1, 5, line(100, most), line(200, -most)), // Owned
		journal(2, 1, 5, line(150, most), line(300, -most)),
		journal(3, 2, 5, line(200, -most), line(100, most)), // Owed
		journal(4, 2, 5, line(250, -1), line(300, 1)),
		journal(5, 3, 5, line(300, -most), line(100, most)), // Held
		journal(6, 3, 5, line(350, -1), line(200, 1)),
		journal(7, 4, 5, line(400, -most), line(100, most)), // Current; from the next year on Retained
		journal(8, 4, 5, line(500, -1), line(200, 1)),
		journal(9, 5, 5, line(998, -most), line(100, most)), // Other
		journal(10, 5, 5, line(999, -1), line(200, 1)),
		journal(11, 6, 5, line(998, most), line(300, -most)), // an account by itself
		journal(12, 6, 5, line(998, most), line(200, -most)),
		journal(13, 7, 5, line(100, most), line(400, -most)), // none of them
	)
}

func TestMakeOfTooMuch(t *testing.T) {
	c, b := charted(t), tooMuch(t)
	for entity := 1; entity <= 6; entity++ {
		checkMakeRefused(t, c, b, entity, 5, api.ErrMoney)
		checkMakeRefused(t, c, b, entity, 12, api.ErrMoney)
		checkMake(t, b, entity, 4, sheet.Sheet{})
	}
	checkMake(t, b, 7, 5, with(of(most, 0, 0, 0, most, 0), list{balance(100, most)}, nil, nil))
}

// What was too much ahead of a year counts, though by now it comes to what fits: the first error is told.
func TestMakeOfTooMuchAhead(t *testing.T) {
	b := made(t,
		journal(1, 1, 5, line(400, -most), line(100, most)), journal(2, 1, 5, line(500, -1), line(200, 1)),
		journal(3, 1, 17, line(500, 1), line(200, -1)))
	checkMakeRefused(t, charted(t), b, 1, 17, api.ErrMoney)
	b = made(t,
		journal(1, 1, 5, line(100, most), line(200, -most)), journal(2, 1, 5, line(100, 1), line(300, -1)),
		journal(3, 1, 17, line(300, 1), line(100, -1)))
	checkMakeRefused(t, charted(t), b, 1, 17, api.ErrMoney)
}

// The most of each of the six.
func TestMakeOfTheMost(t *testing.T) {
	b := made(t, journal(1, 1, 5, line(100, most), line(200, -most)), journal(2, 1, 5, line(998, most), line(300, -most)))
	checkMake(t, b, 1, 5, with(of(most, most, most, 0, 0, -most),
		list{balance(100, most)}, list{balance(200, most)}, list{balance(300, most)}))
	b = made(t, journal(1, 1, 5, line(400, -most), line(200, most)), journal(2, 1, 12, line(400, -1), line(300, 1)),
		journal(3, 1, 14, line(500, most), line(998, -most)), journal(4, 1, 14, line(400, 1), line(998, -1)),
		journal(5, 1, 14, line(998, 1), line(100, -1)))
	checkMake(t, b, 1, 14, with(of(-1, -most, -1, most, -most, most),
		list{balance(100, -1)}, list{balance(200, -most)}, list{balance(300, -1)}))
}

// What comes to too much on the way may fit as a whole.
func TestMakeOfTooMuchOnTheWay(t *testing.T) {
	b := made(t, journal(1, 1, 5, line(100, most), line(200, -most)), journal(2, 1, 5, line(150, most), line(250, -most)),
		journal(3, 1, 5, line(600, -most), line(300, most)))
	checkMakeRefused(t, charted(t), b, 1, 5, api.ErrMoney) // Owed is 2 * most
	b = made(t, journal(1, 1, 5, line(100, most), line(200, -most)), journal(2, 1, 5, line(150, most), line(300, -most)),
		journal(3, 1, 5, line(600, -most), line(998, most)))
	checkMake(t, b, 1, 5, with(of(most, most, most, 0, 0, -most),
		list{balance(100, most), balance(150, most), balance(600, -most)}, list{balance(200, most)}, list{balance(300, most)}))
}

// P1202

func TestHolds(t *testing.T) {
	holding := []sheet.Sheet{
		{}, of(5, 5, 0, 0, 0, 0), of(5, 0, 5, 0, 0, 0), of(5, 0, 0, 5, 0, 0), of(5, 0, 0, 0, 5, 0), of(5, 0, 0, 0, 0, 5),
		of(31, 1, 2, 4, 8, 16), of(-31, -1, -2, -4, -8, -16), of(0, 5, -5, 0, 0, 0),
		of(most, most, 0, 0, 0, 0), of(-most, 0, 0, 0, 0, -most),
		of(most, most, most, most, -most, -most), of(-most, -most, -most, -most, most, most), of(0, most, most, -most, -most, 0),
		with(of(5, 5, 0, 0, 0, 0), list{balance(100, 77)}, list{balance(200, -1)}, list{balance(1, 2)}),
	}
	for _, s := range holding {
		if !sheet.Holds(s) {
			t.Errorf("%v does not hold", s)
		}
	}
}

func TestHoldsNot(t *testing.T) {
	wrong := []sheet.Sheet{
		of(5, 0, 0, 0, 0, 0), of(0, 1, 0, 0, 0, 0), of(5, -5, 0, 0, 0, 0), of(5, 4, 0, 0, 0, 0), of(31, 1, 2, 4, 8, 17),
		of(most, most, most, 0, 0, 0), of(0, most, most, 0, 0, 0), of(0, -most, -most, 0, 0, 0),
		of(0, math.MaxInt, 1, math.MinInt, 0, 0), of(0, math.MinInt, math.MinInt, 0, 0, 0),
		of(most+1, most, 1, 0, 0, 0), of(-most-1, -most, -1, 0, 0, 0),
		of(math.MaxInt, math.MaxInt, 0, 0, 0, 0), of(math.MinInt, math.MinInt, 0, 0, 0, 0),
		{Assets: list{balance(100, 5)}, Owed: 5},
	}
	for place := range 5 {
		five := [5]int{}
		five[place], five[(place+1)%5] = most+1, -1
		wrong = append(wrong, of(most, five[0], five[1], five[2], five[3], five[4]))
	}
	for _, s := range wrong {
		if sheet.Holds(s) {
			t.Errorf("%v holds", s)
		}
	}
}

func TestRoll(t *testing.T) {
	b := standing(t)
	checkRoll(t, b, 1, 2000, [3]int{0, 5, 5}, api.OK)
	checkRoll(t, b, 1, 2001, [3]int{5, 5, 10}, api.OK)
	checkRoll(t, b, 1, 2002, [3]int{10, 0, 10}, api.OK)
	checkRoll(t, b, 1, 2003, [3]int{10, 0, 10}, api.OK)
	checkRoll(t, b, 1, 2098, [3]int{10, 0, 10}, api.OK)
	checkRoll(t, b, 1, 2099, [3]int{10, 1, 11}, api.OK)
	checkRoll(t, b, 2, 2000, [3]int{}, api.OK)
	checkRoll(t, b, 2, 2001, [3]int{0, -6, -6}, api.OK)
	checkRoll(t, b, 9, 2050, [3]int{}, api.OK)
	checkRoll(t, &book.Book{}, 1, 2099, [3]int{}, api.OK)
}

func TestRollRefuses(t *testing.T) {
	b := standing(t)
	for _, year := range []int{1999, 2100, 0, -2000, 5, math.MinInt, math.MaxInt, math.MaxInt/12 + 2000} {
		checkRoll(t, b, 1, year, [3]int{}, api.ErrArg)
		checkRoll(t, tooMuch(t), 1, year, [3]int{}, api.ErrArg)
	}
	for _, entity := range []int{0, -1, 10, math.MinInt, math.MaxInt} {
		checkRoll(t, b, entity, 2000, [3]int{}, api.ErrArg)
	}
	checkRoll(t, nil, 1, 2000, [3]int{}, api.ErrArg)
	ahead, net, both, err := sheet.Roll(nil, tooMuch(t), 6, 2000)
	if ahead != 0 || net != 0 || both != 0 || err != api.ErrArg {
		t.Errorf("Roll without a chart: %d, %d, %d, %d", ahead, net, both, err)
	}
}

func TestRollOfTooMuch(t *testing.T) {
	b := tooMuch(t)
	for entity := 1; entity <= 6; entity++ { // also of an account, or a sum, that has nothing to do with what is retained
		checkRoll(t, b, entity, 2000, [3]int{}, api.ErrMoney)
		checkRoll(t, b, entity, 2001, [3]int{}, api.ErrMoney)
	}
	checkRoll(t, b, 7, 2000, [3]int{0, most, most}, api.OK)
	b = made(t, journal(1, 1, 5, line(400, 1-most), line(100, most-1)), journal(2, 1, 17, line(500, -1), line(200, 1)),
		journal(3, 1, 30, line(500, -1), line(200, 1)))
	checkRoll(t, b, 1, 2001, [3]int{most - 1, 1, most}, api.OK)
	checkMake(t, b, 1, 35, with(of(most-1, -2, 0, most, 1, 0), list{balance(100, most-1)}, list{balance(200, -2)}, nil))
	checkRoll(t, b, 1, 2002, [3]int{}, api.ErrMoney) // of both together alone
}

// What is answered is new memory, and what is handed in stays (the rules for all packages).

func TestArgumentsStay(t *testing.T) {
	c, b := charted(t), standing(t)
	accounts := c.All()
	s, _ := sheet.Make(c, b, 1, latest)
	sheet.Roll(c, b, 1, 2001)
	was := with(s, slices.Clone(s.Assets), slices.Clone(s.Liabilities), slices.Clone(s.Equity))
	sheet.Holds(s)
	checkSheet(t, "the sheet", s, was)
	if !slices.Equal(c.All(), accounts) || !b.Same(standing(t)) {
		t.Errorf("the chart became %v, the book %v", c.All(), b.All())
	}
}

func TestAnswersShareNothing(t *testing.T) {
	c, b := charted(t), standing(t)
	want, _ := sheet.Make(c, b, 1, 36)
	s, _ := sheet.Make(c, b, 1, 36)
	clear(s.Assets[:cap(s.Assets)])
	checkSheet(t, "the rest", s, with(want, make(list, len(want.Assets)), want.Liabilities, want.Equity))
	clear(s.Liabilities[:cap(s.Liabilities)])
	clear(s.Equity[:cap(s.Equity)])
	again, _ := sheet.Make(c, b, 1, 36)
	checkSheet(t, "made again", again, want)
}
