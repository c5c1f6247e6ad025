package rules_test

import (
	"math"
	"slices"
	"testing"

	"variorum/api"
	"variorum/book"
	"variorum/chart"
	"variorum/entry"
	"variorum/gates"
	"variorum/rules"
)

const (
	most   = api.MaxMoney
	open   = 5 // a period that is open everywhere
	shut   = 9 // one that is shut in entity 1
	locked = 8 // one that is locked in entity 1
)

func line(account, amount int) api.Line { return api.Line{Account: account, Amount: amount} }

// journal makes a journal of lines.
func journal(id, entity, period int, ref string, lines ...api.Line) api.Journal {
	return api.Journal{Id: id, Entity: entity, Period: period, Ref: ref, Lines: lines}
}

// plain makes a journal of entity 1 in an open period, that moves an amount from account 2 to account 1.
func plain(id, amount int) api.Journal { return ofEntity(1, id, amount) }

// ofEntity makes a plain journal of an entity.
func ofEntity(entity, id, amount int) api.Journal {
	return journal(id, entity, open, "", line(1, amount), line(2, -amount))
}

// void makes a journal void.
func void(j api.Journal) api.Journal {
	j.Void = true
	return j
}

// with makes a journal that was changed.
func with(j api.Journal, changes ...func(j *api.Journal)) api.Journal {
	j = entry.Copy(j)
	for _, change := range changes {
		change(&j)
	}
	return j
}

// Changes, each of which brings an error of its own.

func unbalanced(j *api.Journal)  { j.Lines[0].Amount++ }
func missing(j *api.Journal)     { j.Lines[0].Account = 4 }
func retired(j *api.Journal)     { j.Lines[0].Account = 3 }
func inShut(j *api.Journal)      { j.Period = shut }
func voided(j *api.Journal)      { j.Void = true }
func ofAnother(j *api.Journal)   { j.Entity = 2 }
func refTaken(j *api.Journal)    { j.Ref = "A" }
func numberTaken(j *api.Journal) { j.Id = 20 }

// tooMuch asks for more than fits beside what stands in account 1.
func tooMuch(j *api.Journal) {
	j.Lines = []api.Line{line(1, most), line(2, -most)}
}

// standing has accounts 1 and 2, account 3 retired, and some journals.
func standing(t *testing.T) rules.Rules {
	t.Helper()
	return ruled(t,
		with(plain(10, 5), refTaken),
		with(plain(20, 2)),
		void(with(plain(30, 7), func(j *api.Journal) { j.Ref = "B" })),
		with(plain(40, 2), inShut),
		with(ofEntity(2, 50, 9), func(j *api.Journal) { j.Ref = "C" }),
		with(plain(60, 1), func(j *api.Journal) { j.Period = locked }),
		void(with(plain(70, 7), inShut)),
	)
}

// ruled has the same accounts and gates with a book of other journals.
func ruled(t *testing.T, l ...api.Journal) rules.Rules {
	t.Helper()
	c, err := chart.New(api.Account{Code: 1, Kind: api.Asset}, api.Account{Code: 2, Kind: api.Income}, api.Account{Code: 3, Kind: api.Asset, Retired: true})
	checkErr(t, "chart.New", err, api.OK)
	g := &gates.Gates{}
	checkErr(t, "Set", g.Set(1, shut, gates.Shut), api.OK)
	checkErr(t, "Set", g.Set(1, locked, gates.Shut), api.OK)
	checkErr(t, "Set", g.Set(1, locked, gates.Locked), api.OK)
	b, err := book.Of(l...)
	checkErr(t, "book.Of", err, api.OK)
	return rules.Rules{Chart: c, Gates: g, Book: b}
}

func checkErr(t *testing.T, what string, got, want api.Errno) {
	t.Helper()
	if got != want {
		t.Errorf("%s: error %d, want %d", what, got, want)
	}
}

func checkSum(t *testing.T, r rules.Rules, account, entity, want int) {
	t.Helper()
	if got := r.Sum(account, entity); got != want {
		t.Errorf("Sum(%d, %d) = %d, want %d", account, entity, got, want)
	}
}

func checkReverse(t *testing.T, r rules.Rules, id, as, period int, want api.Journal, wantErr api.Errno) {
	t.Helper()
	got, err := r.Reverse(id, as, period)
	if !entry.Same(got, want) || err != wantErr {
		t.Errorf("Reverse(%d, %d, %d) = %v, %d, want %v, %d", id, as, period, got, err, want, wantErr)
	}
}

// state is a copy of all that Rules has.
type state struct {
	chart []api.Account
	gates [][3]int
	book  *book.Book
}

func stateOf(r rules.Rules) state { return state{r.Chart.All(), r.Gates.All(), r.Book.Copy()} }

// checkKept tells whether Rules has still what it had.
func checkKept(t *testing.T, r rules.Rules, was state) {
	t.Helper()
	if !slices.Equal(r.Chart.All(), was.chart) || !slices.Equal(r.Gates.All(), was.gates) || !r.Book.Same(was.book) {
		t.Errorf("a question changed what was asked: %v, %v, %v", r.Chart.All(), r.Gates.All(), r.Book.All())
	}
}

type row struct {
	name string
	j    api.Journal
	want api.Errno
}

// checkRows asks for each journal, and looks that nothing is changed thereby.
func checkRows(t *testing.T, r rules.Rules, ask func(api.Journal) api.Errno, rows []row) {
	t.Helper()
	was := stateOf(r)
	for _, x := range rows {
		given := entry.Copy(x.j)
		checkErr(t, x.name, ask(given), x.want)
		checkErr(t, x.name+", asked again", ask(given), x.want)
		if !entry.Same(given, x.j) {
			t.Errorf("%s: the journal was written into: %v", x.name, given)
		}
	}
	checkKept(t, r, was)
}

// P701

func TestExampleOfTheChapter(t *testing.T) {
	checkErr(t, "a shut period", standing(t).Post(with(plain(7, 5), inShut)), api.ErrClosed)
}

// wrong has journals that entry.Check refuses.
func wrong() []row {
	return []row{
		{"an empty one", api.Journal{}, api.ErrArg},
		{"Id 0", plain(0, 5), api.ErrArg},
		{"Id below 0", plain(-1, 5), api.ErrArg},
		{"Id too great", plain(api.MaxId+1, 5), api.ErrArg},
		{"Entity 0", ofEntity(0, 7, 5), api.ErrArg},
		{"Entity too great", ofEntity(api.MaxEntity+1, 7, 5), api.ErrArg},
		{"Period below 0", journal(7, 1, -1, "", line(1, 5), line(2, -5)), api.ErrArg},
		{"Period too great", journal(7, 1, api.MaxPeriod+1, "", line(1, 5), line(2, -5)), api.ErrArg},
		{"a reference of other bytes", journal(7, 1, open, "a", line(1, 5), line(2, -5)), api.ErrArg},
		{"a reference too long", journal(7, 1, open, "ABCDEFGHI", line(1, 5), line(2, -5)), api.ErrArg},
		{"no lines", journal(7, 1, open, ""), api.ErrArg},
		{"too many lines", journal(7, 1, open, "", slices.Repeat([]api.Line{line(1, 1), line(2, -1)}, 5)...), api.ErrArg},
		{"account 0", journal(7, 1, open, "", line(0, 5), line(2, -5)), api.ErrArg},
		{"amount 0", plain(7, 0), api.ErrArg},
		{"its own entity as a partner", journal(7, 1, open, "", api.Line{Account: 1, Amount: 5, Partner: 1}, line(2, -5)), api.ErrArg},
		{"an amount too great", plain(7, most+1), api.ErrMoney},
		{"the least amount", plain(7, math.MinInt), api.ErrMoney},
		{"lines that do not come to 0", with(plain(7, 5), unbalanced), api.ErrBalance},
	}
}

func TestCheckCountsAheadOfTheBook(t *testing.T) {
	r := standing(t)
	checkRows(t, r, r.Post, wrong())
	checkRows(t, r, r.Amend, wrong())
}

func TestPost(t *testing.T) {
	r := standing(t)
	checkRows(t, r, r.Post, []row{
		{"ordinary", plain(7, 5), api.OK},
		{"as many lines as may be", journal(7, 1, open, "D", slices.Repeat([]api.Line{line(1, 1), line(2, -1)}, 4)...), api.OK},
		{"ends of all", journal(api.MaxId, api.MaxEntity, api.MaxPeriod, "Z", line(1, most), line(2, -most)), api.OK},
		{"period 0", journal(1, 1, 0, "", line(1, 1), line(2, -1)), api.OK},
		{"a missing account", with(plain(7, 5), missing), api.ErrAccount},
		{"a retired account", with(plain(7, 5), retired), api.ErrRetired},
		{"a missing account ahead of a retired one", journal(7, 1, open, "", line(4, 5), line(3, -5)), api.ErrAccount},
		{"a retired account ahead of a missing one", journal(7, 1, open, "", line(3, 5), line(4, -5)), api.ErrRetired},
		{"a missing account in the last line", journal(7, 1, open, "", line(1, 5), line(2, -4), line(4, -1)), api.ErrAccount},
		{"a shut period", with(plain(7, 5), inShut), api.ErrClosed},
		{"a locked period", with(plain(7, 5), func(j *api.Journal) { j.Period = locked }), api.ErrClosed},
		{"the same period of another entity", with(plain(7, 5), inShut, ofAnother), api.OK},
		{"a void one", with(plain(7, 5), voided), api.ErrArg},
		{"a number that is there", plain(10, 5), api.ErrDup},
		{"a number of a void one", plain(30, 5), api.ErrDup},
		{"a reference that is there", with(plain(7, 5), refTaken), api.ErrRef},
		{"a reference that a void one has", with(plain(7, 5), func(j *api.Journal) { j.Ref = "B" }), api.OK},
		{"a reference that another entity has", with(plain(7, 5), func(j *api.Journal) { j.Ref = "C" }), api.OK},
		{"too much", with(plain(7, 5), tooMuch), api.ErrMoney},
	})
}

// TestPostOrder has journals with two faults that stand next to each other, of which the first one counts.
func TestPostOrder(t *testing.T) {
	r := standing(t)
	checkRows(t, r, r.Post, []row{
		{"Check ahead of Live", with(plain(7, 5), unbalanced, missing), api.ErrBalance},
		{"Check ahead of all", with(plain(7, 5), tooMuch, retired, inShut, voided, numberTaken, refTaken, func(j *api.Journal) { j.Lines[0].Amount = 1 }), api.ErrBalance},
		{"Live ahead of May", with(plain(7, 5), retired, inShut), api.ErrRetired},
		{"Live ahead of void", with(plain(7, 5), missing, voided), api.ErrAccount},
		{"May ahead of void", with(plain(7, 5), inShut, voided), api.ErrClosed},
		{"void ahead of the number", with(plain(7, 5), voided, numberTaken), api.ErrArg},
		{"the number ahead of the reference", with(plain(7, 5), numberTaken, refTaken), api.ErrDup},
		{"the number ahead of money", with(plain(7, 5), tooMuch, numberTaken), api.ErrDup},
		{"the reference ahead of money", with(plain(7, 5), tooMuch, refTaken), api.ErrRef},
	})
}

func TestPostToAFullBook(t *testing.T) {
	r := ruled(t)
	for id := 1; id < api.MaxBook; id++ {
		checkErr(t, "book.Post", r.Book.Post(plain(id, 1)), api.OK)
	}
	last := with(plain(api.MaxBook, 1), refTaken)
	checkErr(t, "the last one", r.Post(last), api.OK)
	checkErr(t, "book.Post", r.Book.Post(last), api.OK)
	checkRows(t, r, r.Post, []row{
		{"one more", plain(999, 1), api.ErrFull},
		{"full ahead of money", with(plain(999, 1), tooMuch), api.ErrFull},
		{"the reference ahead of full", with(plain(999, 1), refTaken), api.ErrRef},
		{"the number ahead of full", plain(1, 1), api.ErrDup},
		{"the period ahead of full", with(plain(999, 1), inShut), api.ErrClosed},
	})
	checkErr(t, "an Amend needs no room", r.Amend(plain(1, 2)), api.OK)
	checkErr(t, "a Void needs no room", r.Void(1), api.OK)
	checkReverse(t, r, 1, 999, open, api.Journal{}, api.ErrFull)
}

func TestPostMoney(t *testing.T) {
	r := ruled(t, plain(1, 5), plain(2, -3), void(plain(3, most)), ofEntity(2, 4, most), ofEntity(3, 5, -most))
	checkRows(t, r, r.Post, []row{
		{"just as much as fits", plain(7, most-2), api.OK},
		{"one more", plain(7, most-1), api.ErrMoney},
		{"the other way, all that an amount may be", plain(7, -most), api.OK},
		{"a full account", ofEntity(2, 7, 1), api.ErrMoney},
		{"a full account the other way", ofEntity(3, 7, -1), api.ErrMoney},
		{"back from the end", ofEntity(2, 7, -1), api.OK},
		{"from one end to 0", ofEntity(2, 7, -most), api.OK},
		{"an entity that has nothing", ofEntity(4, 7, most), api.OK},
		{"the second account alone", journal(7, 1, open, "", line(2, -most), line(1, most-2), line(1, 2)), api.ErrMoney},
		{"too much on the way, not in all", journal(7, 2, open, "", line(1, most), line(1, -most), line(1, most), line(1, -most)), api.OK},
		{"two lines of one account, too much in all", journal(7, 4, open, "", line(1, most), line(1, 1), line(2, -most), line(2, -1)), api.ErrMoney},
		{"two lines of one account, each well below", journal(7, 4, open, "", line(1, most/2), line(1, most/2+1), line(2, -most/2-1), line(2, -most/2)), api.ErrMoney},
		{"partners make no other account", journal(7, 4, open, "", api.Line{Account: 1, Amount: most, Partner: 2}, api.Line{Account: 1, Amount: 1, Partner: 3}, line(2, -most), line(2, -1)), api.ErrMoney},
		{"periods make no other account", journal(7, 2, 6, "", line(1, 1), line(2, -1)), api.ErrMoney},
	})
}

// TestMoneyOfAnyAccount has a book that holds too much already, which it may by itself.
func TestMoneyOfAnyAccount(t *testing.T) {
	r := ruled(t, plain(1, 5), ofEntity(3, 2, most), ofEntity(3, 3, 1), plain(4, 5))
	checkErr(t, "Post elsewhere", r.Post(plain(7, 1)), api.ErrMoney)
	checkErr(t, "Amend elsewhere", r.Amend(plain(1, 4)), api.ErrMoney)
	checkErr(t, "Void elsewhere", r.Void(4), api.ErrMoney)
	checkReverse(t, r, 1, 7, open, api.Journal{}, api.ErrMoney)
	checkErr(t, "a Post that makes it fit", r.Post(ofEntity(3, 7, -1)), api.OK)
	checkErr(t, "a Post that makes it more", r.Post(ofEntity(3, 7, 1)), api.ErrMoney)
	checkErr(t, "an Amend that makes it fit", r.Amend(ofEntity(3, 3, -1)), api.OK)
	checkErr(t, "a Void that makes it fit", r.Void(3), api.OK)
	checkReverse(t, r, 3, 7, open, ofEntity(3, 7, -1), api.OK)
}

// TestMoneyOfAccountsNotInTheChart has sums of accounts that the chart does not know: they count as well.
func TestMoneyOfAccountsNotInTheChart(t *testing.T) {
	r := ruled(t, journal(1, 1, open, "", line(77, most), line(78, -most)), journal(2, 1, open, "", line(77, 1), line(79, -1)))
	checkErr(t, "Post", r.Post(plain(7, 1)), api.ErrMoney)
	checkErr(t, "Void", r.Void(1), api.OK)
	checkSum(t, r, 77, 1, most+1)
}

func TestAmend(t *testing.T) {
	r := standing(t)
	checkRows(t, r, r.Amend, []row{
		{"ordinary", plain(10, 6), api.OK},
		{"another reference and period", journal(10, 1, 6, "D", line(2, 6), line(1, -6)), api.OK},
		{"its own reference", with(plain(10, 6), refTaken), api.OK},
		{"itself", with(plain(10, 5), refTaken), api.OK},
		{"a missing account", with(plain(10, 6), missing), api.ErrAccount},
		{"a retired account", with(plain(10, 6), retired), api.ErrRetired},
		{"a missing account ahead of a retired one", journal(10, 1, open, "", line(4, 5), line(3, -5)), api.ErrAccount},
		{"a retired account ahead of a missing one", journal(10, 1, open, "", line(3, 5), line(4, -5)), api.ErrRetired},
		{"one that is not there", plain(7, 5), api.ErrNone},
		{"a void one", plain(30, 5), api.ErrState},
		{"out of a shut period", plain(40, 5), api.ErrClosed},
		{"out of a locked period", plain(60, 5), api.ErrClosed},
		{"into a shut period", with(plain(10, 5), inShut), api.ErrClosed},
		{"into a locked period", with(plain(10, 5), func(j *api.Journal) { j.Period = locked }), api.ErrClosed},
		{"within a shut period", with(plain(40, 5), inShut), api.ErrClosed},
		{"to be void", with(plain(10, 5), voided), api.ErrArg},
		{"another entity", with(plain(10, 5), ofAnother), api.ErrArg},
		{"another one's reference", with(plain(20, 5), refTaken), api.ErrRef},
		{"a reference that a void one has", with(plain(20, 5), func(j *api.Journal) { j.Ref = "B" }), api.OK},
		{"a reference that another entity has", with(plain(20, 5), func(j *api.Journal) { j.Ref = "C" }), api.OK},
		{"too much", with(plain(20, 5), tooMuch), api.ErrMoney},
		{"a gate of another entity", with(ofEntity(2, 50, 3), inShut), api.OK},
	})
}

// TestAmendOrder has journals with two faults that stand next to each other, of which the first one counts.
func TestAmendOrder(t *testing.T) {
	r := standing(t)
	gone := func(j *api.Journal) { j.Id = 7 }
	toVoid := func(j *api.Journal) { j.Id = 30 }
	toShutVoid := func(j *api.Journal) { j.Id = 70 }
	fromShut := func(j *api.Journal) { j.Id = 40 }
	checkRows(t, r, r.Amend, []row{
		{"Check ahead of Live", with(plain(10, 5), unbalanced, missing), api.ErrBalance},
		{"Check ahead of ErrNone", with(plain(10, 5), unbalanced, gone), api.ErrBalance},
		{"Live ahead of ErrNone", with(plain(10, 5), retired, gone), api.ErrRetired},
		{"Live ahead of ErrState", with(plain(10, 5), missing, toVoid), api.ErrAccount},
		{"ErrNone ahead of the new period", with(plain(10, 5), gone, inShut), api.ErrNone},
		{"ErrNone ahead of void", with(plain(10, 5), gone, voided), api.ErrNone},
		{"ErrState ahead of the old period", with(plain(10, 5), toShutVoid), api.ErrState},
		{"ErrState ahead of the new period", with(plain(10, 5), toVoid, inShut), api.ErrState},
		{"ErrState ahead of void", with(plain(10, 5), toVoid, voided), api.ErrState},
		{"the old period ahead of void", with(plain(10, 5), fromShut, voided), api.ErrClosed},
		{"the old period ahead of another entity", with(plain(10, 5), fromShut, ofAnother), api.ErrClosed},
		{"the new period ahead of void", with(plain(10, 5), inShut, voided), api.ErrClosed},
		{"the new period is looked up in the new entity", with(plain(10, 5), inShut, ofAnother), api.ErrArg},
		{"the new entity's period ahead of the new entity", with(ofEntity(2, 50, 5), inShut, func(j *api.Journal) { j.Entity = 1 }), api.ErrClosed},
		{"void ahead of the reference", with(plain(20, 5), voided, refTaken), api.ErrArg},
		{"another entity ahead of the reference", with(ofEntity(2, 50, 5), func(j *api.Journal) { j.Entity = 1 }, refTaken), api.ErrArg},
		{"another entity ahead of money", with(ofEntity(2, 50, 5), func(j *api.Journal) { j.Entity = 1 }, tooMuch), api.ErrArg},
		{"the reference ahead of money", with(plain(20, 5), tooMuch, refTaken), api.ErrRef},
	})
}

func TestAmendMoney(t *testing.T) {
	r := ruled(t, plain(1, 5), plain(2, most-5), ofEntity(2, 3, -5), ofEntity(2, 4, most), ofEntity(2, 5, 5))
	checkRows(t, r, r.Amend, []row{
		{"the same", plain(1, 5), api.OK},
		{"what it was does not count", plain(2, most-5), api.OK},
		{"one more", plain(1, 6), api.ErrMoney},
		{"one less", plain(1, 4), api.OK},
		{"all that an amount may be, the other way", plain(1, -most), api.OK},
		{"a smaller credit", ofEntity(2, 3, -4), api.ErrMoney},
		{"a greater credit", ofEntity(2, 3, -6), api.OK},
		{"away to other accounts", journal(3, 2, open, "", line(2, 1), line(2, -1)), api.ErrMoney},
	})
}

func TestVoid(t *testing.T) {
	r := standing(t)
	was := stateOf(r)
	rows := []struct {
		id   int
		want api.Errno
	}{
		{10, api.OK}, {20, api.OK}, {50, api.OK},
		{30, api.ErrState}, {70, api.ErrState},
		{40, api.ErrClosed}, {60, api.ErrClosed},
		{7, api.ErrNone}, {0, api.ErrNone}, {-1, api.ErrNone}, {api.MaxId + 1, api.ErrNone}, {math.MinInt, api.ErrNone}, {math.MaxInt, api.ErrNone},
	}
	for _, x := range rows {
		checkErr(t, "Void", r.Void(x.id), x.want)
		checkErr(t, "Void again", r.Void(x.id), x.want)
	}
	checkKept(t, r, was)
}

func TestVoidAsksNoAccounts(t *testing.T) {
	r := standing(t)
	checkErr(t, "Retire", r.Chart.Retire(1), api.OK)
	checkErr(t, "Void of a journal of a retired account", r.Void(10), api.OK)
	r.Chart = &chart.Chart{}
	checkErr(t, "Void of a journal of an account that is gone", r.Void(10), api.OK)
}

func TestVoidMoney(t *testing.T) {
	r := ruled(t, plain(1, -5), plain(2, most), plain(3, 5), journal(4, 1, shut, "", line(1, -1), line(2, 1)), plain(5, 1))
	was := stateOf(r)
	checkErr(t, "Void of a credit", r.Void(1), api.ErrMoney)
	checkErr(t, "Void of a debit", r.Void(3), api.OK)
	checkErr(t, "Void of the greatest debit", r.Void(2), api.OK)
	checkErr(t, "the period ahead of money", r.Void(4), api.ErrClosed)
	checkKept(t, r, was)
}

// TestNilParts has Rules of which some parts are nil: that counts ahead of all.
func TestNilParts(t *testing.T) {
	r := standing(t)
	for parts := range 7 {
		some := rules.Rules{}
		if parts&1 != 0 {
			some.Chart = r.Chart
		}
		if parts&2 != 0 {
			some.Gates = r.Gates
		}
		if parts&4 != 0 {
			some.Book = r.Book
		}
		for _, j := range []api.Journal{{}, plain(7, 5), plain(10, 5), with(plain(7, 5), unbalanced), with(plain(10, 5), missing), with(plain(30, 5), inShut)} {
			checkErr(t, "Post", some.Post(j), api.ErrArg)
			checkErr(t, "Amend", some.Amend(j), api.ErrArg)
		}
		for _, id := range []int{-1, 0, 7, 10, 30, 40} {
			checkErr(t, "Void", some.Void(id), api.ErrArg)
			checkReverse(t, some, id, 7, open, api.Journal{}, api.ErrArg)
		}
	}
}

func TestZeroParts(t *testing.T) {
	r := rules.Rules{Chart: &chart.Chart{}, Gates: &gates.Gates{}, Book: &book.Book{}}
	checkErr(t, "Post", r.Post(plain(7, 5)), api.ErrAccount)
	checkErr(t, "Add", r.Chart.Add(1, api.Asset), api.OK)
	checkErr(t, "Add", r.Chart.Add(2, api.Income), api.OK)
	checkErr(t, "Post", r.Post(plain(7, 5)), api.OK)
	checkErr(t, "Amend", r.Amend(plain(7, 5)), api.ErrNone)
	checkErr(t, "Void", r.Void(7), api.ErrNone)
	checkReverse(t, r, 7, 8, open, api.Journal{}, api.ErrNone)
}

// TestWhatIsAskedIsNow has parts that are changed between questions.
func TestWhatIsAskedIsNow(t *testing.T) {
	r := standing(t)
	checkErr(t, "open", r.Post(plain(7, 5)), api.OK)
	checkErr(t, "Set", r.Gates.Set(1, open, gates.Shut), api.OK)
	checkErr(t, "shut", r.Post(plain(7, 5)), api.ErrClosed)
	checkErr(t, "Set", r.Gates.Set(1, open, gates.Open), api.OK)
	checkErr(t, "Post", r.Book.Post(plain(7, 5)), api.OK)
	checkErr(t, "there", r.Post(plain(7, 5)), api.ErrDup)
	checkErr(t, "Retire", r.Chart.Retire(2), api.OK)
	checkErr(t, "retired", r.Post(plain(7, 5)), api.ErrRetired)
}

// P702

func TestSum(t *testing.T) {
	r := ruled(t,
		journal(1, 1, open, "", line(1, 5), line(2, -3), line(1, -2)),
		journal(2, 1, shut, "", line(1, 10), line(2, -10)),
		void(plain(3, 100)),
		ofEntity(2, 4, 9),
		journal(5, 1, open, "", line(77, 4), line(1, -4)),
	)
	was := stateOf(r)
	checkSum(t, r, 1, 1, 9)
	checkSum(t, r, 2, 1, -13)
	checkSum(t, r, 77, 1, 4)
	checkSum(t, r, 1, 2, 9)
	checkSum(t, r, 2, 2, -9)
	for _, x := range [][2]int{{3, 1}, {1, 3}, {0, 1}, {1, 0}, {-1, -1}, {0, 0}, {math.MaxInt, math.MinInt}, {2, 77}} {
		checkSum(t, r, x[0], x[1], 0)
	}
	checkKept(t, r, was)
}

func TestSumAsksTheBookAlone(t *testing.T) {
	r := standing(t)
	checkSum(t, rules.Rules{Book: r.Book}, 1, 1, 10)
	checkSum(t, rules.Rules{Chart: r.Chart, Gates: r.Gates}, 1, 1, 0)
	checkSum(t, rules.Rules{}, 1, 1, 0)
}

// TestGreatSums fills a book with the greatest amounts, whose sum does not fit, and is told as it is.
func TestGreatSums(t *testing.T) {
	r := ruled(t)
	for id := 1; id <= api.MaxBook; id++ {
		lines := slices.Concat(slices.Repeat([]api.Line{line(1, most)}, 4), slices.Repeat([]api.Line{line(2, -most)}, 4))
		checkErr(t, "book.Post", r.Book.Post(journal(id, 1, open, "", lines...)), api.OK)
	}
	checkSum(t, r, 1, 1, 4*api.MaxBook*most)
	checkSum(t, r, 2, 1, -4*api.MaxBook*most)
	checkErr(t, "Void", r.Void(1), api.ErrMoney)
}

func TestReverse(t *testing.T) {
	r := standing(t)
	was := stateOf(r)
	checkReverse(t, r, 10, 7, 6, journal(7, 1, 6, "", line(1, -5), line(2, 5)), api.OK)
	checkReverse(t, r, 10, 7, open, plain(7, -5), api.OK)
	checkReverse(t, r, 50, api.MaxId, shut, with(ofEntity(2, api.MaxId, -9), inShut), api.OK)
	checkReverse(t, r, 40, 7, open, plain(7, -2), api.OK) // the period of the one that is undone may be shut
	for _, id := range []int{7, 0, -1, api.MaxId + 1, math.MinInt} {
		checkReverse(t, r, id, 8, open, api.Journal{}, api.ErrNone)
	}
	checkReverse(t, r, 30, 7, open, api.Journal{}, api.ErrState)
	for _, as := range []int{0, -1, api.MaxId + 1, math.MaxInt} {
		checkReverse(t, r, 10, as, open, api.Journal{}, api.ErrArg)
	}
	for _, period := range []int{-1, api.MaxPeriod + 1, math.MinInt} {
		checkReverse(t, r, 10, 7, period, api.Journal{}, api.ErrArg)
	}
	checkReverse(t, r, 10, 7, shut, api.Journal{}, api.ErrClosed)
	checkReverse(t, r, 10, 7, locked, api.Journal{}, api.ErrClosed)
	checkReverse(t, r, 10, 20, open, api.Journal{}, api.ErrDup)
	checkReverse(t, r, 10, 10, open, api.Journal{}, api.ErrDup)
	checkKept(t, r, was)
}

func TestReverseOrder(t *testing.T) {
	r := standing(t)
	checkReverse(t, r, 7, 0, -1, api.Journal{}, api.ErrNone)
	checkReverse(t, r, 30, 0, -1, api.Journal{}, api.ErrState)
	checkReverse(t, r, 30, 20, shut, api.Journal{}, api.ErrState)
	checkReverse(t, r, 10, 20, shut, api.Journal{}, api.ErrClosed)
	checkReverse(t, r, 10, 0, shut, api.Journal{}, api.ErrArg)
	checkErr(t, "Retire", r.Chart.Retire(2), api.OK)
	checkReverse(t, r, 10, 20, shut, api.Journal{}, api.ErrRetired)
	checkReverse(t, r, 10, 7, -1, api.Journal{}, api.ErrArg)
	r.Chart = &chart.Chart{}
	checkReverse(t, r, 10, 20, shut, api.Journal{}, api.ErrAccount)
}

func TestReverseMoney(t *testing.T) {
	r := ruled(t, plain(1, -5), plain(2, most), plain(3, 5))
	checkReverse(t, r, 1, 7, open, api.Journal{}, api.ErrMoney)
	checkReverse(t, r, 2, 7, open, plain(7, -most), api.OK)
	checkReverse(t, r, 3, 7, open, plain(7, -5), api.OK)
}

func TestReverseKeepsPartners(t *testing.T) {
	r := ruled(t, journal(1, 1, open, "A", api.Line{Account: 1, Amount: 5, Partner: 2}, line(2, -5)))
	checkReverse(t, r, 1, 2, 6, journal(2, 1, 6, "", api.Line{Account: 1, Amount: -5, Partner: 2}, line(2, 5)), api.OK)
}

func TestReverseSharesNothing(t *testing.T) {
	r := standing(t)
	was := stateOf(r)
	first, _ := r.Reverse(10, 7, open)
	first.Lines[0] = api.Line{}
	checkKept(t, r, was)
	checkReverse(t, r, 10, 7, open, plain(7, -5), api.OK)
}
