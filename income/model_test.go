package income_test

import (
	"math/rand"
	"slices"
	"testing"

	"variorum/api"
	"variorum/book"
	"variorum/chart"
	"variorum/income"
	"variorum/trial"
)

// What follows answers from plain lists what income should.

// kinds has what each account that is drawn is; accounts 6 and 7 are in no chart.
func kinds() map[int]int {
	return map[int]int{1: api.Expense, 2: api.Income, 3: api.Asset, 4: api.Income, 5: api.Expense}
}

func chartOfKinds(t *testing.T) *chart.Chart {
	t.Helper()
	c := &chart.Chart{}
	for code, kind := range kinds() {
		checkErr(t, "Add", c.Add(code, kind), api.OK)
	}
	return c
}

func tooGreat(x int) bool { return x > most || x < -most }

// modelSide tells what is of a kind, times a sign, and the sum of it.
func modelSide(l list, kind, sign int) (side list, sum int, great bool) {
	for _, x := range l {
		if kinds()[x.Account] == kind {
			side = append(side, balance(x.Account, sign*x.Amount))
			sum += sign * x.Amount
			great = great || tooGreat(x.Amount)
		}
	}
	return side, sum, great || tooGreat(sum)
}

func modelOf(l list) (income.Statement, api.Errno) {
	earnings, earned, great := modelSide(l, api.Income, -1)
	spendings, spent, greatToo := modelSide(l, api.Expense, 1)
	if great || greatToo || tooGreat(earned-spent) {
		return income.Statement{}, api.ErrMoney
	}
	return statement(earnings, spendings, earned, spent, earned-spent), api.OK
}

// modelMake looks at each account there might be.
func modelMake(journals []api.Journal, o trial.Of) (income.Statement, api.Errno) {
	if o.Entity < 1 || o.Entity > 9 || o.From < 0 || o.To > 1199 || o.From > o.To {
		return income.Statement{}, api.ErrArg
	}
	var l list
	for account := 1; account <= 7; account++ {
		sum := 0
		for _, j := range journals {
			for _, x := range j.Lines {
				if x.Account == account && !j.Void && j.Entity == o.Entity && j.Period >= o.From && j.Period <= o.To {
					sum += x.Amount
				}
			}
		}
		if tooGreat(sum) {
			return income.Statement{}, api.ErrMoney
		}
		if sum != 0 {
			l = append(l, balance(account, sum))
		}
	}
	return modelOf(l)
}

func modelMonths(journals []api.Journal, o trial.Of) ([]int, api.Errno) {
	if _, err := modelMake(journals, o); err == api.ErrArg {
		return nil, err
	}
	var nets []int
	for period := o.From; period <= o.To; period++ {
		s, err := modelMake(journals, of(o.Entity, period, period))
		if err != api.OK {
			return nil, err
		}
		nets = append(nets, s.Net)
	}
	return nets, api.OK
}

// drawnAmount is mostly small, else near the greatest one.
func drawnAmount(r *rand.Rand) int {
	if r.Intn(12) > 0 {
		return 1 + r.Intn(6)
	}
	return most - r.Intn(3)
}

// drawnBook makes a book of few entities and periods, so that journals meet, and the list of what it has.
func drawnBook(r *rand.Rand) (*book.Book, []api.Journal) {
	b := &book.Book{}
	for range r.Intn(12) {
		j := journal(1+r.Intn(30), 1+r.Intn(2), r.Intn(4))
		j.Void = r.Intn(5) == 0
		for range 1 + r.Intn(3) {
			amount := drawnAmount(r) * (2*r.Intn(2) - 1)
			j.Lines = append(j.Lines, line(1+r.Intn(7), amount), line(1+r.Intn(7), -amount))
		}
		b.Post(j)
	}
	return b, b.All()
}

// drawnOf mostly may be.
func drawnOf(r *rand.Rand) trial.Of {
	o := of(1+r.Intn(2), r.Intn(4), 1+r.Intn(5))
	switch r.Intn(20) {
	case 0:
		o.Entity = 10 * r.Intn(2)
	case 1:
		o.From = -1
	case 2:
		o.To = 1200
	}
	return o
}

// drawnBalances stays within a word, whatever is summed up.
func drawnBalances(r *rand.Rand) list {
	var l list
	for range r.Intn(8) {
		x := balance(r.Intn(8), drawnAmount(r)*(r.Intn(3)-1))
		if r.Intn(40) == 0 {
			x.Amount = most + 1
		}
		l = append(l, x)
	}
	return l
}

// TestOfAgainstPlainLists holds P1101's Of against plain lists, and looks that both outcomes come up.
func TestOfAgainstPlainLists(t *testing.T) {
	r := rand.New(rand.NewSource(1101))
	c, seen := chartOfKinds(t), map[api.Errno]int{}
	for range 3000 {
		l := drawnBalances(r)
		want, wantErr := modelOf(l)
		got, err := income.Of(c, l)
		seen[wantErr]++
		checkErr(t, "Of", err, wantErr)
		checkStatement(t, "Of", got, want)
		if t.Failed() {
			t.Fatalf("of %v", l)
		}
	}
	if seen[api.OK] < 1000 || seen[api.ErrMoney] < 100 {
		t.Errorf("too few of a kind were drawn: %v", seen)
	}
}

// TestAgainstPlainLists holds P1101's Make and Months likewise.
func TestAgainstPlainLists(t *testing.T) {
	r := rand.New(rand.NewSource(1102))
	c, seen := chartOfKinds(t), map[api.Errno]int{}
	for range 3000 {
		b, journals := drawnBook(r)
		o := drawnOf(r)
		want, wantErr := modelMake(journals, o)
		seen[wantErr]++
		got, err := income.Make(c, b, o)
		checkErr(t, "Make", err, wantErr)
		checkStatement(t, "Make", got, want)
		wantNets, wantErr := modelMonths(journals, o)
		nets, err := income.Months(c, b, o)
		checkErr(t, "Months", err, wantErr)
		if !slices.Equal(nets, wantNets) {
			t.Errorf("Months: %v, want %v", nets, wantNets)
		}
		if t.Failed() {
			t.Fatalf("%v of %v", o, journals)
		}
	}
	if seen[api.OK] < 1000 || seen[api.ErrArg] < 100 || seen[api.ErrMoney] < 100 {
		t.Errorf("too few of a kind were drawn: %v", seen)
	}
}

// P1102

func TestNetIsTheSumOfMonths(t *testing.T) {
	r := rand.New(rand.NewSource(1103))
	c, told := chartOfKinds(t), 0
	for range 3000 {
		b, _ := drawnBook(r)
		o := drawnOf(r)
		s, err := income.Make(c, b, o)
		nets, errOfMonths := income.Months(c, b, o)
		if err != api.OK || errOfMonths != api.OK {
			continue
		}
		sum := 0
		for _, net := range nets {
			sum += net
		}
		if sum != s.Net {
			t.Fatalf("Net %d, months %v come to %d", s.Net, nets, sum)
		}
		if s.Net != 0 {
			told++
		}
	}
	if told < 500 {
		t.Errorf("only %d had a Net", told)
	}
}

// The journals of a book come to 0, so that what is on no side is the Net, too.
func TestNetIsWhatIsOnNoSide(t *testing.T) {
	r := rand.New(rand.NewSource(1104))
	c := chartOfKinds(t)
	for range 1000 {
		b, _ := drawnBook(r)
		o := drawnOf(r)
		s, err := income.Make(c, b, o)
		if err != api.OK {
			continue
		}
		rest := 0
		balances, _ := trial.Balances(b, o)
		for _, x := range balances {
			if kind := kinds()[x.Account]; kind != api.Income && kind != api.Expense {
				rest += x.Amount
			}
		}
		if rest != s.Net {
			t.Fatalf("Net %d, on no side stands %d", s.Net, rest)
		}
	}
}
