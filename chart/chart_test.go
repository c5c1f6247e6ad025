package chart_test

import (
	"math"
	"math/rand"
	"slices"
	"testing"

	"variorum/api"
	"variorum/chart"
)

// row makes an account that is not retired.
func row(code, kind int) api.Account { return api.Account{Code: code, Kind: kind} }

// made makes a chart that may be.
func made(t *testing.T, l ...api.Account) *chart.Chart {
	t.Helper()
	c, err := chart.New(l...)
	if c == nil || err != api.OK {
		t.Fatalf("New(%v) = %v, %d, want a chart", l, c, err)
	}
	return c
}

// checkAll holds a chart's accounts against what is wanted.
func checkAll(t *testing.T, what string, c *chart.Chart, want ...api.Account) {
	t.Helper()
	if got := c.All(); !slices.Equal(got, want) {
		t.Errorf("%s: accounts %v, want %v", what, got, want)
	}
}

// checkErr holds an error against what is wanted.
func checkErr(t *testing.T, what string, got, want api.Errno) {
	t.Helper()
	if got != want {
		t.Errorf("%s: error %d, want %d", what, got, want)
	}
}

// P301

func TestNew(t *testing.T) {
	checkAll(t, "of none", made(t))
	checkAll(t, "of an empty list", made(t, []api.Account{}...))
	gone := api.Account{Code: 7, Kind: api.Equity, Retired: true}
	c := made(t, row(9999, api.Expense), row(3, api.Asset), gone, row(1, api.Liability), row(4, api.Income))
	checkAll(t, "of each kind", c, row(1, api.Liability), row(3, api.Asset), row(4, api.Income), gone, row(9999, api.Expense))
	checkErr(t, "Retire of one that came retired", c.Retire(7), api.ErrRetired)
	checkErr(t, "Live of one that came retired", c.Live(7), api.ErrRetired)
	checkErr(t, "Add to a new one", c.Add(2, api.Asset), api.OK)
	checkErr(t, "Live of one that came and one that was added", c.Live(3, 2), api.OK)
}

func TestNewOfWrongAccounts(t *testing.T) {
	rows := []struct {
		l   []api.Account
		err api.Errno
	}{
		{[]api.Account{row(0, 1)}, api.ErrArg},
		{[]api.Account{row(-1, 1)}, api.ErrArg},
		{[]api.Account{row(10000, 1)}, api.ErrArg},
		{[]api.Account{row(math.MinInt, 1)}, api.ErrArg},
		{[]api.Account{row(math.MaxInt, 1)}, api.ErrArg},
		{[]api.Account{row(1+1<<32, 1)}, api.ErrArg},
		{[]api.Account{row(1, 0)}, api.ErrArg},
		{[]api.Account{row(1, 6)}, api.ErrArg},
		{[]api.Account{row(1, -1)}, api.ErrArg},
		{[]api.Account{row(1, 1+1<<8)}, api.ErrArg},
		{[]api.Account{row(1, 1+1<<32)}, api.ErrArg},
		{[]api.Account{row(1, math.MinInt)}, api.ErrArg},
		{[]api.Account{row(1, math.MaxInt)}, api.ErrArg},
		{[]api.Account{{}}, api.ErrArg},
		{[]api.Account{row(1, 1), row(2, 1), row(3, 0)}, api.ErrArg},
		{[]api.Account{row(5, 1), row(5, 1)}, api.ErrDup},
		{[]api.Account{row(5, 1), row(6, 1), row(5, 2)}, api.ErrDup},
		{[]api.Account{{Code: 5, Kind: 1, Retired: true}, row(5, 1)}, api.ErrDup},
		// the first account that has an error counts
		{[]api.Account{row(5, 1), row(5, 2), row(0, 1)}, api.ErrDup},
		{[]api.Account{row(5, 1), row(0, 1), row(5, 2)}, api.ErrArg},
		// within one account ErrArg is named first
		{[]api.Account{row(5, 1), row(5, 6)}, api.ErrArg},
		{[]api.Account{row(0, 1), row(0, 1)}, api.ErrArg},
	}
	for _, r := range rows {
		if c, err := chart.New(r.l...); c != nil || err != r.err {
			t.Errorf("New(%v) = %v, %d, want none, %d", r.l, c, err, r.err)
		}
	}
}

func TestZeroChart(t *testing.T) {
	var c chart.Chart
	checkAll(t, "zero", &c)
	checkErr(t, "Live of none", c.Live(), api.OK)
	checkErr(t, "Live of one", c.Live(1), api.ErrAccount)
	checkErr(t, "Retire", c.Retire(1), api.ErrNone)
	if a, ok := c.Get(1); a != (api.Account{}) || ok {
		t.Errorf("Get(1) = %v, %v, want none", a, ok)
	}
	if got := c.Kind(1, 2, 3, 4, 5); len(got) != 0 {
		t.Errorf("Kind = %v, want none", got)
	}
	d := c.Copy()
	if d == nil {
		t.Fatal("Copy is nil")
	}
	checkErr(t, "Add to the copy", d.Add(1, api.Asset), api.OK)
	checkAll(t, "copied", &c)
	checkErr(t, "Add", c.Add(2, api.Income), api.OK)
	checkAll(t, "no longer zero", &c, row(2, api.Income))
	checkAll(t, "the copy", d, row(1, api.Asset))
}

func TestAdd(t *testing.T) {
	c := made(t, row(5, api.Asset), row(7, api.Asset))
	rows := []struct {
		code, kind int
		err        api.Errno
	}{
		{6, api.Liability, api.OK},
		{1, api.Equity, api.OK},
		{9999, api.Expense, api.OK},
		{6, api.Liability, api.ErrDup},
		{5, api.Expense, api.ErrDup},
		{1, api.Asset, api.ErrDup},
		{9999, api.Asset, api.ErrDup},
		{0, api.Asset, api.ErrArg},
		{-1, api.Asset, api.ErrArg},
		{10000, api.Asset, api.ErrArg},
		{math.MinInt, api.Asset, api.ErrArg},
		{math.MaxInt, api.Asset, api.ErrArg},
		{8, 0, api.ErrArg},
		{8, 6, api.ErrArg},
		{8, -1, api.ErrArg},
		{8, math.MaxInt, api.ErrArg},
		{8, math.MinInt, api.ErrArg},
		{5, 6, api.ErrArg}, // ErrArg is named ahead of ErrDup
	}
	for _, r := range rows {
		if err := c.Add(r.code, r.kind); err != r.err {
			t.Errorf("Add(%d, %d) = %d, want %d", r.code, r.kind, err, r.err)
		}
	}
	checkAll(t, "added", c, row(1, api.Equity), row(5, api.Asset), row(6, api.Liability), row(7, api.Asset), row(9999, api.Expense))
}

func TestRetire(t *testing.T) {
	c := made(t, row(5, api.Asset), row(6, api.Income))
	checkErr(t, "Retire", c.Retire(5), api.OK)
	checkErr(t, "Retire again", c.Retire(5), api.ErrRetired)
	for _, code := range []int{4, 7, 0, -1, 10000, math.MinInt, math.MaxInt} {
		if err := c.Retire(code); err != api.ErrNone {
			t.Errorf("Retire(%d) = %d, want ErrNone", code, err)
		}
	}
	checkErr(t, "Add of a retired one", c.Add(5, api.Asset), api.ErrDup)
	checkAll(t, "retired", c, api.Account{Code: 5, Kind: api.Asset, Retired: true}, row(6, api.Income))
}

func TestLive(t *testing.T) {
	c := made(t, row(5, api.Asset), api.Account{Code: 6, Kind: api.Asset, Retired: true}, row(7, api.Asset))
	rows := []struct {
		l   []int
		err api.Errno
	}{
		{nil, api.OK},
		{[]int{}, api.OK},
		{[]int{5}, api.OK},
		{[]int{7, 5, 7, 5}, api.OK},
		{[]int{6}, api.ErrRetired},
		{[]int{8}, api.ErrAccount},
		{[]int{0}, api.ErrAccount},
		{[]int{10000}, api.ErrAccount},
		{[]int{math.MinInt}, api.ErrAccount},
		{[]int{math.MaxInt}, api.ErrAccount},
		// the first one that is not so counts
		{[]int{5, 6, 8}, api.ErrRetired},
		{[]int{5, 8, 6}, api.ErrAccount},
		{[]int{5, 7, 7, 6}, api.ErrRetired},
		{[]int{7, 5, 8}, api.ErrAccount},
	}
	for _, r := range rows {
		if err := c.Live(r.l...); err != r.err {
			t.Errorf("Live(%v) = %d, want %d", r.l, err, r.err)
		}
	}
}

// P302

func TestGet(t *testing.T) {
	gone := api.Account{Code: 6, Kind: api.Expense, Retired: true}
	c := made(t, row(9999, api.Equity), gone, row(1, api.Asset))
	for _, want := range c.All() {
		if got, ok := c.Get(want.Code); got != want || !ok {
			t.Errorf("Get(%d) = %v, %v, want %v", want.Code, got, ok, want)
		}
	}
	for _, code := range []int{0, 2, 5, 7, 9998, 10000, -6, math.MinInt, math.MaxInt} {
		if got, ok := c.Get(code); got != (api.Account{}) || ok {
			t.Errorf("Get(%d) = %v, %v, want none", code, got, ok)
		}
	}
}

func TestKind(t *testing.T) {
	c := made(t, row(50, api.Asset), row(40, api.Liability), row(30, api.Equity), row(20, api.Income), row(10, api.Expense),
		row(45, api.Asset), api.Account{Code: 15, Kind: api.Asset, Retired: true})
	rows := []struct {
		kinds, want []int
	}{
		{nil, nil},
		{[]int{api.Asset}, []int{15, 45, 50}},
		{[]int{api.Liability}, []int{40}},
		{[]int{api.Equity}, []int{30}},
		{[]int{api.Income}, []int{20}},
		{[]int{api.Expense}, []int{10}},
		{[]int{api.Asset, api.Expense}, []int{10, 15, 45, 50}},
		{[]int{api.Expense, api.Asset}, []int{10, 15, 45, 50}},
		{[]int{api.Equity, api.Liability, api.Equity}, []int{30, 40}},
		{[]int{api.Asset, api.Asset, api.Asset}, []int{15, 45, 50}},
		{[]int{1, 2, 3, 4, 5}, []int{10, 15, 20, 30, 40, 45, 50}},
		{[]int{0}, nil},
		{[]int{6}, nil},
		{[]int{-1, math.MinInt, math.MaxInt, 1 + 1<<8, 1 + 1<<32}, nil},
		{[]int{0, api.Income, 9}, []int{20}},
	}
	for _, r := range rows {
		if got := c.Kind(r.kinds...); !slices.Equal(got, r.want) {
			t.Errorf("Kind(%v) = %v, want %v", r.kinds, got, r.want)
		}
	}
}

func TestDebit(t *testing.T) {
	for _, kind := range []int{api.Asset, api.Expense} {
		if !chart.Debit(kind) {
			t.Errorf("Debit(%d) = false", kind)
		}
	}
	for _, kind := range []int{api.Liability, api.Equity, api.Income, 0, 6, -1, -5, 1 + 1<<8, 1 + 1<<32, math.MinInt, math.MaxInt} {
		if chart.Debit(kind) {
			t.Errorf("Debit(%d) = true", kind)
		}
	}
}

func TestCopyGoesOnByItself(t *testing.T) {
	c := made(t, row(10, api.Asset), row(20, api.Income))
	d := c.Copy()
	checkErr(t, "Retire of the first", c.Retire(10), api.OK)
	checkErr(t, "Live of the copy", d.Live(10), api.OK)
	checkErr(t, "Retire of the copy", d.Retire(20), api.OK)
	checkErr(t, "Live of the first", c.Live(20), api.OK)
	checkErr(t, "Add to the first", c.Add(15, api.Equity), api.OK)
	checkErr(t, "Add to the copy", d.Add(17, api.Expense), api.OK)
	checkErr(t, "Add to the first's end", c.Add(30, api.Equity), api.OK)
	checkErr(t, "Add to the copy's end", d.Add(40, api.Expense), api.OK)
	goneTen, goneTwenty := row(10, api.Asset), row(20, api.Income)
	goneTen.Retired, goneTwenty.Retired = true, true
	checkAll(t, "the first", c, goneTen, row(15, api.Equity), row(20, api.Income), row(30, api.Equity))
	checkAll(t, "the copy", d, row(10, api.Asset), row(17, api.Expense), goneTwenty, row(40, api.Expense))
}

func TestNilChart(t *testing.T) {
	var c *chart.Chart
	checkErr(t, "Add", c.Add(1, api.Asset), api.ErrArg)
	checkErr(t, "Retire", c.Retire(1), api.ErrArg)
	checkErr(t, "Live of none", c.Live(), api.ErrArg)
	checkErr(t, "Live", c.Live(1), api.ErrArg)
	if a, ok := c.Get(1); a != (api.Account{}) || ok {
		t.Errorf("Get(1) = %v, %v, want none", a, ok)
	}
	if len(c.All()) != 0 || len(c.Kind(1, 2, 3, 4, 5)) != 0 || c.Copy() != nil {
		t.Error("a nil chart has something")
	}
}

// What is answered is new memory, and what is handed in stays and is not kept (the rules for all packages).
func TestNothingIsShared(t *testing.T) {
	l := []api.Account{row(30, api.Asset), row(10, api.Asset), row(20, api.Income)}
	c := made(t, l...)
	if !slices.Equal(l, []api.Account{row(30, api.Asset), row(10, api.Asset), row(20, api.Income)}) {
		t.Errorf("the list became %v", l)
	}
	clear(l)
	all, codes := c.All(), c.Kind(api.Asset)
	clear(all[:cap(all)])
	clear(codes[:cap(codes)])
	checkAll(t, "cleared answers", c, row(10, api.Asset), row(20, api.Income), row(30, api.Asset))
	if got := c.Kind(api.Asset); !slices.Equal(got, []int{10, 30}) {
		t.Errorf("Kind = %v", got)
	}
	before := c.All()
	c.Retire(10)
	if before[0].Retired {
		t.Error("an earlier answer was retired")
	}
	codes, kinds := []int{30, 10, 99}, []int{4, 1, 4, 9}
	c.Live(codes...)
	c.Kind(kinds...)
	if !slices.Equal(codes, []int{30, 10, 99}) || !slices.Equal(kinds, []int{4, 1, 4, 9}) {
		t.Errorf("the lists became %v and %v", codes, kinds)
	}
}

func TestFullChart(t *testing.T) {
	var c chart.Chart
	for code := api.MaxCode; code >= 1; code-- {
		checkErr(t, "Add", c.Add(code, 1+code%5), api.OK)
	}
	all := c.All()
	if len(all) != api.MaxCode {
		t.Fatalf("%d accounts", len(all))
	}
	for i, a := range all {
		if a != row(i+1, 1+(i+1)%5) {
			t.Fatalf("account %d is %v", i, a)
		}
	}
	checkErr(t, "Add of one more", c.Add(1+api.MaxCode/2, 1), api.ErrDup)
}

// plain is a chart as P301 and P302 tell it: the accounts in the order in which they came.
type plain []api.Account

func (p plain) find(code int) int {
	return slices.IndexFunc(p, func(a api.Account) bool { return a.Code == code })
}

func (p *plain) add(code, kind int) api.Errno {
	if code < 1 || code > 9999 || kind < 1 || kind > 5 {
		return api.ErrArg
	}
	if p.find(code) >= 0 {
		return api.ErrDup
	}
	*p = append(*p, row(code, kind))
	return api.OK
}

func (p plain) retire(code int) api.Errno {
	i := p.find(code)
	if i < 0 {
		return api.ErrNone
	}
	if p[i].Retired {
		return api.ErrRetired
	}
	p[i].Retired = true
	return api.OK
}

func (p plain) live(codes []int) api.Errno {
	for _, code := range codes {
		i := p.find(code)
		if i < 0 {
			return api.ErrAccount
		}
		if p[i].Retired {
			return api.ErrRetired
		}
	}
	return api.OK
}

func (p plain) all() []api.Account {
	l := slices.Clone(p)
	slices.SortFunc(l, func(a, b api.Account) int { return a.Code - b.Code })
	return l
}

func (p plain) kind(kinds []int) []int {
	var codes []int
	for _, a := range p.all() {
		if slices.Contains(kinds, a.Kind) {
			codes = append(codes, a.Code)
		}
	}
	return codes
}

// drawn draws a few small numbers.
func drawn(r *rand.Rand, below int) []int {
	l := make([]int, r.Intn(4))
	for i := range l {
		l[i] = r.Intn(below)
	}
	return l
}

func TestAnyOrderOfCalls(t *testing.T) {
	r := rand.New(rand.NewSource(301))
	for range 300 {
		var c chart.Chart
		var p plain
		for range 60 {
			code, kind := r.Intn(14), r.Intn(7)
			switch r.Intn(3) {
			case 0:
				checkErr(t, "Retire", c.Retire(code), p.retire(code))
			default:
				checkErr(t, "Add", c.Add(code, kind), p.add(code, kind))
			}
			codes, kinds := drawn(r, 14), drawn(r, 7)
			checkErr(t, "Live", c.Live(codes...), p.live(codes))
			if got, want := c.Kind(kinds...), p.kind(kinds); !slices.Equal(got, want) {
				t.Fatalf("Kind(%v) = %v, want %v", kinds, got, want)
			}
			got, ok := c.Get(code)
			if i := p.find(code); ok != (i >= 0) || ok && got != p[i] || !ok && got != (api.Account{}) {
				t.Fatalf("Get(%d) = %v, %v of %v", code, got, ok, p)
			}
		}
		checkAll(t, "any order", &c, p.all()...)
		checkAll(t, "made of them", made(t, p...), p.all()...)
	}
}
