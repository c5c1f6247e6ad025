package trial_test

import (
	"math/rand"
	"slices"
	"testing"

	"variorum/api"
	"variorum/book"
	"variorum/chart"
	"variorum/trial"
)

// What follows answers from plain lists what trial should.

// modelLines tells all lines that count, one by one.
func modelLines(list []api.Journal, o trial.Of) []api.Line {
	var lines []api.Line
	for _, j := range list {
		for _, l := range j.Lines {
			if !j.Void && j.Entity == o.Entity && j.Period >= o.From && j.Period <= o.To {
				lines = append(lines, l)
			}
		}
	}
	return lines
}

func modelRefuses(o trial.Of) bool {
	return o.Entity < 1 || o.Entity > 9 || o.From < 0 || o.To > 1199 || o.From > o.To
}

func modelBalances(list []api.Journal, o trial.Of) ([]api.Balance, api.Errno) {
	if modelRefuses(o) {
		return nil, api.ErrArg
	}
	var all []api.Balance
	for _, l := range modelLines(list, o) {
		all = append(all, balance(l.Account, l.Amount))
	}
	return modelPlus(all, nil)
}

// modelPartners looks at each partner there might be.
func modelPartners(list []api.Journal, o trial.Of) ([][2]int, api.Errno) {
	if _, err := modelBalances(list, o); err != api.OK {
		return nil, err
	}
	var partners [][2]int
	for partner := 1; partner <= 9; partner++ {
		sum := 0
		for _, l := range modelLines(list, o) {
			if l.Partner == partner {
				sum += l.Amount
			}
		}
		if sum != 0 {
			partners = append(partners, [2]int{partner, sum})
		}
	}
	return partners, api.OK
}

// modelPlus looks at each account there might be. It takes lists whose sums stay within a word.
func modelPlus(a, b []api.Balance) ([]api.Balance, api.Errno) {
	var list []api.Balance
	for account := range 8 {
		sum := 0
		for _, x := range append(slices.Clone(a), b...) {
			if x.Account == account && (x.Amount > most || x.Amount < -most) {
				return nil, api.ErrMoney
			}
			if x.Account == account {
				sum += x.Amount
			}
		}
		if sum > most || sum < -most {
			return nil, api.ErrMoney
		}
		if sum != 0 {
			list = append(list, balance(account, sum))
		}
	}
	return list, api.OK
}

func modelPick(kinds map[int]int, l []api.Balance, asked []int) []api.Balance {
	var list []api.Balance
	for _, x := range l {
		if kind, there := kinds[x.Account]; there && slices.Contains(asked, kind) {
			list = append(list, x)
		}
	}
	return list
}

// drawnAmount is mostly small, else near the greatest one.
func drawnAmount(r *rand.Rand) int {
	if r.Intn(8) > 0 {
		return 1 + r.Intn(6)
	}
	return most - r.Intn(3)
}

// drawnBook makes a book of few numbers, so that many of them meet, and the list of what it has.
func drawnBook(r *rand.Rand) (*book.Book, []api.Journal) {
	b := &book.Book{}
	for range r.Intn(12) {
		j := journal(1+r.Intn(30), 1+r.Intn(3), r.Intn(4))
		j.Void = r.Intn(5) == 0
		if r.Intn(10) == 0 {
			j.Period = 1199 - r.Intn(2)
		}
		for range 1 + r.Intn(4) {
			amount := drawnAmount(r) * (2*r.Intn(2) - 1)
			j.Lines = append(j.Lines, drawnLine(r, amount), drawnLine(r, -amount))
		}
		b.Post(j)
	}
	return b, b.All()
}

// drawnLine may have a partner, of entities that the books have not.
func drawnLine(r *rand.Rand, amount int) api.Line {
	partners := []int{0, 0, 4, 5, 9}
	return with(partners[r.Intn(len(partners))], line(1+r.Intn(7), amount))
}

// drawnOf mostly may be.
func drawnOf(r *rand.Rand) trial.Of {
	o := of(1+r.Intn(3), r.Intn(4), r.Intn(5))
	switch r.Intn(12) {
	case 0:
		o.Entity = 10 * r.Intn(2)
	case 1:
		o.From = -1
	case 2:
		o.To = 1199 + r.Intn(2)
	case 3:
		o.From, o.To = 0, 1199
	}
	return o
}

func drawnBalances(r *rand.Rand) []api.Balance {
	var l []api.Balance
	for range r.Intn(6) {
		x := balance(r.Intn(8), drawnAmount(r)*(r.Intn(3)-1))
		if r.Intn(30) == 0 {
			x.Amount = most + 1
		}
		l = append(l, x)
	}
	return l
}

// TestAgainstPlainLists holds P1001 and P1002 against plain lists, and looks that each error comes up.
func TestAgainstPlainLists(t *testing.T) {
	r := rand.New(rand.NewSource(1001))
	seen := map[api.Errno]int{}
	for range 3000 {
		b, list := drawnBook(r)
		o := drawnOf(r)
		want, wantErr := modelBalances(list, o)
		seen[wantErr]++
		got, err := trial.Balances(b, o)
		checkErr(t, "Balances", err, wantErr)
		checkList(t, "Balances", got, want)
		wantPartners, wantErr := modelPartners(list, o)
		partners, err := trial.Partners(b, o)
		checkErr(t, "Partners", err, wantErr)
		if !slices.Equal(partners, wantPartners) {
			t.Errorf("Partners: %v, want %v", partners, wantPartners)
		}
		if t.Failed() {
			t.Fatalf("%v of %v", o, list)
		}
	}
	if seen[api.OK] < 1000 || seen[api.ErrArg] < 100 || seen[api.ErrMoney] < 100 {
		t.Errorf("too few of a kind were drawn: %v", seen)
	}
}

func TestListsAgainstPlainLists(t *testing.T) {
	r := rand.New(rand.NewSource(1002))
	c, kinds := &chart.Chart{}, map[int]int{}
	for code := 1; code <= 5; code++ {
		c.Add(code, 6-code)
		kinds[code] = 6 - code
	}
	for range 3000 {
		x, y := drawnBalances(r), drawnBalances(r)
		want, wantErr := modelPlus(x, y)
		got, err := trial.Plus(x, y)
		checkErr(t, "Plus", err, wantErr)
		checkList(t, "Plus", got, want)
		asked := []int{r.Intn(8) - 1, r.Intn(8) - 1}[:r.Intn(3)]
		checkList(t, "Pick", trial.Pick(c, x, asked...), modelPick(kinds, x, asked))
		if t.Failed() {
			t.Fatalf("of %v and %v, kinds %v", x, y, asked)
		}
	}
}

// P1003

func TestBalancesComeToZero(t *testing.T) {
	r := rand.New(rand.NewSource(1003))
	told := 0
	for range 3000 {
		b, _ := drawnBook(r)
		list, err := trial.Balances(b, drawnOf(r))
		if err != api.OK {
			continue
		}
		told += len(list)
		checkSum(t, 0, api.OK, list...)
	}
	if told < 1000 {
		t.Errorf("only %d balances were told", told)
	}
}

// Parts of a span, laid together, are the whole span.
func TestPlusOfPartsIsTheWhole(t *testing.T) {
	r := rand.New(rand.NewSource(1004))
	for range 1000 {
		b, _ := drawnBook(r)
		cut := r.Intn(4)
		early, err1 := trial.Balances(b, of(1, 0, cut))
		late, err2 := trial.Balances(b, of(1, cut+1, 1199))
		if err1 != api.OK || err2 != api.OK {
			continue
		}
		whole, wholeErr := trial.Balances(b, of(1, 0, 1199))
		got, err := trial.Plus(early, late)
		checkErr(t, "Plus", err, wholeErr)
		checkList(t, "Plus", got, whole)
	}
}
