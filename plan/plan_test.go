package plan_test

import (
	"math"
	"slices"
	"testing"

	"variorum/agenda"
	"variorum/api"
	"variorum/entry"
	"variorum/plan"
)

const most = api.MaxMoney

// change is what a test turns of a template that may be.
type change func(t *plan.Template)

// accrual has 5 to 4 that are due in 3 and 4, but for changes.
func accrual(l ...change) plan.Template {
	return changed(plan.Template{Kind: plan.Accrual, Id: 1, Entity: 1, From: 3, To: 4, Every: 1, Amount: 5, Debit: 1, Credit: 2}, l)
}

// allocation has 10 that are due in 3, 6 and 9, but for changes.
func allocation(l ...change) plan.Template {
	return changed(plan.Template{Kind: plan.Allocation, Id: 1, Entity: 1, From: 3, To: 9, Every: 3, Amount: 10, Credit: 9,
		Targets: []int{1, 2, 3}, Weights: []int{1, 0, 2}}, l)
}

func changed(t plan.Template, l []change) plan.Template {
	for _, f := range l {
		f(&t)
	}
	return t
}

func span(from, to, every int) change {
	return func(t *plan.Template) { t.From, t.To, t.Every = from, to, every }
}

func amount(n int) change {
	return func(t *plan.Template) { t.Amount = n }
}

func rank(n int) change {
	return func(t *plan.Template) { t.Rank = n }
}

func noKind(t *plan.Template) { t.Kind = 0 }

// split gives a template targets from 1 on, one for each weight.
func split(weights ...int) change {
	return func(t *plan.Template) {
		t.Targets, t.Weights = nil, weights
		for i := range weights {
			t.Targets = append(t.Targets, i+1)
		}
	}
}

func line(account, amount int) api.Line {
	return api.Line{Account: account, Amount: amount}
}

func journal(id, entity, period int, lines ...api.Line) api.Journal {
	return api.Journal{Id: id, Entity: entity, Period: period, Lines: lines}
}

func checkErr(t *testing.T, what string, got, want api.Errno) {
	t.Helper()
	if got != want {
		t.Errorf("%s: error %d, want %d", what, got, want)
	}
}

func checkJournals(t *testing.T, what string, got, want []api.Journal) {
	t.Helper()
	if !slices.EqualFunc(got, want, entry.Same) {
		t.Errorf("%s: %v, want %v", what, got, want)
	}
}

func checkMake(t *testing.T, what string, x plan.Template, period, id int, want ...api.Journal) {
	t.Helper()
	got, err := plan.Make(x, period, id)
	checkErr(t, what, err, api.OK)
	checkJournals(t, what, got, want)
}

func checkMakesNone(t *testing.T, what string, x plan.Template, period, id int) {
	t.Helper()
	got, err := plan.Make(x, period, id)
	checkErr(t, what, err, api.ErrArg)
	checkJournals(t, what, got, nil)
}

func checkPeriods(t *testing.T, what string, x plan.Template, want ...int) {
	t.Helper()
	if got := plan.Periods(x); !slices.Equal(got, want) {
		t.Errorf("Periods of %s: %v, want %v", what, got, want)
	}
}

func checkItems(t *testing.T, what string, got *agenda.Agenda, want ...agenda.Item) {
	t.Helper()
	if got == nil {
		t.Errorf("%s: no Agenda", what)
	}
	if all := got.All(); !slices.Equal(all, want) {
		t.Errorf("%s: %v, want %v", what, all, want)
	}
}

func item(period, rank, id int) agenda.Item {
	return agenda.Item{Period: period, Rank: rank, Id: id}
}

// P901

func TestCheckOfWhatMayBe(t *testing.T) {
	rows := []change{
		func(*plan.Template) {},
		func(t *plan.Template) { t.Id = api.MaxId },
		func(t *plan.Template) { t.Entity = api.MaxEntity },
		span(0, 0, 1),
		span(api.MaxPeriod, api.MaxPeriod, 60),
		span(0, api.MaxPeriod, 1),
		span(0, api.MaxPeriod, 60),
		amount(1),
		amount(most),
		rank(math.MinInt),
		rank(math.MaxInt),
	}
	for i, f := range rows {
		if err := plan.Check(accrual(f)); err != api.OK {
			t.Errorf("accrual %d: error %d", i, err)
		}
		if err := plan.Check(allocation(f)); err != api.OK {
			t.Errorf("allocation %d: error %d", i, err)
		}
	}
}

func TestCheckOfWhatNoKindMayHave(t *testing.T) {
	rows := []change{
		func(t *plan.Template) { t.Id = 0 },
		func(t *plan.Template) { t.Id = -1 },
		func(t *plan.Template) { t.Id = api.MaxId + 1 },
		func(t *plan.Template) { t.Id = math.MaxInt },
		func(t *plan.Template) { t.Entity = 0 },
		func(t *plan.Template) { t.Entity = -1 },
		func(t *plan.Template) { t.Entity = api.MaxEntity + 1 },
		span(-1, 9, 1),
		span(math.MinInt, 9, 1),
		span(3, api.MaxPeriod+1, 1),
		span(3, math.MaxInt, 1),
		span(3, -1, 1),
		span(api.MaxPeriod+1, api.MaxPeriod+1, 1),
		span(10, 9, 1),
		span(api.MaxPeriod, 0, 1),
		span(3, 9, 0),
		span(3, 9, -1),
		span(3, 9, 61),
		span(3, 9, math.MaxInt),
		amount(0),
		amount(-1),
		amount(most + 1),
		amount(math.MinInt),
		amount(math.MaxInt),
		func(t *plan.Template) { t.Credit = 0 },
		func(t *plan.Template) { t.Credit = -9 },
		func(t *plan.Template) { t.Credit = api.MaxCode + 1 },
	}
	for i, f := range rows {
		if err := plan.Check(accrual(f)); err != api.ErrArg {
			t.Errorf("accrual %d: error %d", i, err)
		}
		if err := plan.Check(allocation(f)); err != api.ErrArg {
			t.Errorf("allocation %d: error %d", i, err)
		}
	}
}

func TestCheckOfKinds(t *testing.T) {
	for _, kind := range []int{math.MinInt, -1, 0, 3, 4, 1 << 32, math.MaxInt} {
		f := func(t *plan.Template) { t.Kind = kind }
		checkErr(t, "an accrual but for its kind", plan.Check(accrual(f)), api.ErrArg)
		checkErr(t, "an allocation but for its kind", plan.Check(allocation(f)), api.ErrArg)
	}
	checkErr(t, "a zero one", plan.Check(plan.Template{}), api.ErrArg)
	checkErr(t, "what an accrual has", plan.Check(accrual(func(t *plan.Template) { t.Kind = plan.Allocation })), api.ErrArg)
	checkErr(t, "what an allocation has", plan.Check(allocation(func(t *plan.Template) { t.Kind = plan.Accrual })), api.ErrArg)
}

func TestCheckOfAnAccrual(t *testing.T) {
	rows := []struct {
		change change
		want   api.Errno
	}{
		{func(t *plan.Template) { t.Debit, t.Credit = 1, api.MaxCode }, api.OK},
		{func(t *plan.Template) { t.Debit, t.Credit = api.MaxCode, 1 }, api.OK},
		{func(t *plan.Template) { t.Targets, t.Weights = []int{}, []int{} }, api.OK},
		{func(t *plan.Template) { t.Debit = 0 }, api.ErrArg},
		{func(t *plan.Template) { t.Debit = -1 }, api.ErrArg},
		{func(t *plan.Template) { t.Debit = api.MaxCode + 1 }, api.ErrArg},
		{func(t *plan.Template) { t.Debit = t.Credit }, api.ErrArg},
		{func(t *plan.Template) { t.Targets = []int{7} }, api.ErrArg},
		{func(t *plan.Template) { t.Weights = []int{7} }, api.ErrArg},
		{split(1, 1), api.ErrArg},
		{split(0), api.ErrArg},
	}
	for i, r := range rows {
		if err := plan.Check(accrual(r.change)); err != r.want {
			t.Errorf("row %d: error %d, want %d", i, err, r.want)
		}
	}
}

func TestCheckOfAnAllocationsDebit(t *testing.T) {
	for _, debit := range []int{math.MinInt, -1, 0, 1, 2, 9, api.MaxCode, api.MaxCode + 1, math.MaxInt} {
		err := plan.Check(allocation(func(t *plan.Template) { t.Debit = debit }))
		if err != api.OK {
			t.Errorf("Debit %d: error %d", debit, err)
		}
	}
}

func TestCheckOfTargets(t *testing.T) {
	rows := []struct {
		targets []int
		want    api.Errno
	}{
		{[]int{1}, api.OK},
		{[]int{api.MaxCode}, api.OK},
		{[]int{1, api.MaxCode}, api.OK},
		{[]int{1, 2, 3, 4, 5, 6, 7}, api.OK},
		{[]int{8, 10}, api.OK}, // beside Credit, which is 9
		{nil, api.ErrArg},
		{[]int{}, api.ErrArg},
		{[]int{1, 2, 3, 4, 5, 6, 7, 8}, api.ErrArg},
		{[]int{0}, api.ErrArg},
		{[]int{0, 1}, api.ErrArg},
		{[]int{-1, 1}, api.ErrArg},
		{[]int{math.MinInt}, api.ErrArg},
		{[]int{api.MaxCode + 1}, api.ErrArg},
		{[]int{1, api.MaxCode + 1}, api.ErrArg},
		{[]int{1, math.MaxInt}, api.ErrArg},
		{[]int{1, 1}, api.ErrArg},
		{[]int{1, 2, 2}, api.ErrArg},
		{[]int{2, 1}, api.ErrArg},
		{[]int{1, 3, 2}, api.ErrArg},
		{[]int{9}, api.ErrArg},
		{[]int{9, 10}, api.ErrArg},
		{[]int{8, 9, 10}, api.ErrArg},
		{[]int{1, 9}, api.ErrArg},
	}
	for _, r := range rows {
		x := allocation(func(t *plan.Template) {
			t.Targets, t.Weights = r.targets, slices.Repeat([]int{1}, len(r.targets))
		})
		if err := plan.Check(x); err != r.want {
			t.Errorf("Targets %v: error %d, want %d", r.targets, err, r.want)
		}
	}
}

func TestCheckOfWeights(t *testing.T) {
	rows := []struct {
		weights []int
		want    api.Errno
	}{
		{[]int{1, 1, 1}, api.OK},
		{[]int{0, 0, 1}, api.OK},
		{[]int{1_000_000, 1_000_000, 1_000_000}, api.OK},
		{[]int{0, 0, 0}, api.ErrArg},
		{[]int{1, -1, 1}, api.ErrArg},
		{[]int{1, 1, 1_000_001}, api.ErrArg},
		{nil, api.ErrArg},
		{[]int{}, api.ErrArg},
		{[]int{1, 1}, api.ErrArg},
		{[]int{1, 1, 1, 1}, api.ErrArg},
		{[]int{1, 1, 1, 0}, api.ErrArg},
		{slices.Repeat([]int{1}, 21), api.ErrArg},
	}
	for _, r := range rows {
		if err := plan.Check(allocation(func(t *plan.Template) { t.Weights = r.weights })); err != r.want {
			t.Errorf("Weights %v: error %d, want %d", r.weights, err, r.want)
		}
	}
}

// P902

func TestMakeOfAnAccrual(t *testing.T) {
	on, back := []api.Line{line(1, 5), line(2, -5)}, []api.Line{line(1, -5), line(2, 5)}
	checkMake(t, "the first", accrual(), 3, 10, journal(10, 1, 3, on...), journal(11, 1, 4, back...))
	checkMake(t, "the last", accrual(), 4, 1, journal(1, 1, 4, on...), journal(2, 1, 5, back...))
	checkMake(t, "the greatest numbers", accrual(), 4, 999998, journal(999998, 1, 4, on...), journal(999999, 1, 5, back...))

	great := accrual(amount(most), func(t *plan.Template) { t.Entity, t.Debit, t.Credit = 9, 9999, 1 })
	checkMake(t, "the greatest amount", great, 3, 7,
		journal(7, 9, 3, line(9999, most), line(1, -most)), journal(8, 9, 4, line(9999, -most), line(1, most)))
}

func TestMakeInTheLastMonths(t *testing.T) {
	on, back := []api.Line{line(1, 5), line(2, -5)}, []api.Line{line(1, -5), line(2, 5)}
	x := accrual(span(1198, 1199, 1))
	checkMake(t, "the last but one", x, 1198, 5, journal(5, 1, 1198, on...), journal(6, 1, 1199, back...))
	checkMake(t, "the last month has none behind it", x, 1199, 5, journal(5, 1, 1199, on...))
	checkMake(t, "and needs no number for it", x, 1199, 999999, journal(999999, 1, 1199, on...))
	checkMakesNone(t, "a number too great", x, 1199, 1000000)
	checkMakesNone(t, "a number too great to undo it", x, 1198, 999999)

	y := allocation(span(1199, 1199, 1))
	checkMake(t, "an allocation", y, 1199, 5, journal(5, 1, 1199, line(1, 3), line(3, 7), line(9, -10)))
}

func TestMakeOfAnAllocation(t *testing.T) {
	checkMake(t, "a weight of 0", allocation(), 6, 10, journal(10, 1, 6, line(1, 3), line(3, 7), line(9, -10)))
	checkMake(t, "like weights", allocation(split(1, 1, 1)), 9, 7, journal(7, 1, 9, line(1, 4), line(2, 3), line(3, 3), line(9, -10)))
	checkMake(t, "parts of 0", allocation(split(1, 1, 1, 1), amount(2)), 3, 7, journal(7, 1, 3, line(1, 1), line(2, 1), line(9, -2)))
	checkMake(t, "the last one gets it", allocation(split(1, 2, 1), amount(1)), 3, 7, journal(7, 1, 3, line(2, 1), line(9, -1)))
	checkMake(t, "one target", allocation(split(7)), 3, 999999, journal(999999, 1, 3, line(1, 10), line(9, -10)))
	checkMake(t, "seven targets", allocation(split(1, 1, 1, 1, 1, 1, 1)), 3, 1, journal(1, 1, 3,
		line(1, 2), line(2, 2), line(3, 2), line(4, 1), line(5, 1), line(6, 1), line(7, 1), line(9, -10)))
	checkMake(t, "the greatest amount", allocation(split(1_000_000, 1_000_000), amount(most)), 3, 1,
		journal(1, 1, 3, line(1, most/2), line(2, most/2), line(9, -most)))
	low := allocation(func(t *plan.Template) { t.Entity, t.Debit, t.Credit, t.Targets = 4, 9, 1, []int{2, 50, 9999} })
	checkMake(t, "Credit stands last", low, 3, 1, journal(1, 4, 3, line(2, 3), line(9999, 7), line(1, -10)))
}

func TestMakeOfNoPeriod(t *testing.T) {
	for _, period := range []int{math.MinInt, -1, 0, 2, 5, 6, 1199, 1200, math.MaxInt} {
		checkMakesNone(t, "an accrual", accrual(), period, 10)
	}
	for _, period := range []int{math.MinInt, 0, 2, 4, 5, 7, 8, 10, 12, math.MaxInt} {
		checkMakesNone(t, "an allocation", allocation(), period, 10)
	}
	checkMakesNone(t, "To, to which no step leads", allocation(span(3, 8, 3)), 8, 10)
}

func TestMakeOfWrongNumbers(t *testing.T) {
	for _, id := range []int{math.MinInt, -1, 0, api.MaxId + 1, math.MaxInt} {
		checkMakesNone(t, "an accrual", accrual(), 3, id)
		checkMakesNone(t, "an allocation", allocation(), 3, id)
	}
	checkMakesNone(t, "the second one's", accrual(), 3, api.MaxId)
}

func TestMakeOfWhatCheckRefuses(t *testing.T) {
	checkMakesNone(t, "no kind", accrual(noKind), 3, 10)
	checkMakesNone(t, "no step", accrual(span(3, 4, 0)), 3, 10)
	checkMakesNone(t, "no amount", allocation(amount(0)), 3, 10)
	checkMakesNone(t, "no weights", allocation(split(0, 0)), 3, 10)
	checkMakesNone(t, "no targets", allocation(split()), 3, 10)
}

// P903

func TestPeriods(t *testing.T) {
	checkPeriods(t, "an accrual", accrual(), 3, 4)
	checkPeriods(t, "an allocation", allocation(), 3, 6, 9)
	checkPeriods(t, "To between two", allocation(span(3, 8, 3)), 3, 6)
	checkPeriods(t, "a step beyond To", allocation(span(3, 8, 60)), 3)
	checkPeriods(t, "a step just to To", allocation(span(3, 63, 60)), 3, 63)
	checkPeriods(t, "a step just short of To", allocation(span(3, 62, 60)), 3)
	checkPeriods(t, "one month", accrual(span(7, 7, 1)), 7)
	checkPeriods(t, "the first month", accrual(span(0, 1, 1)), 0, 1)
	checkPeriods(t, "the last months", accrual(span(1190, 1199, 4)), 1190, 1194, 1198)
	checkPeriods(t, "the last month", accrual(span(1199, 1199, 60)), 1199)
	all := plan.Periods(accrual(span(0, 1199, 1)))
	for i, p := range all {
		if p != i {
			t.Errorf("period %d of all is %d", i, p)
		}
	}
	if len(all) != 1200 {
		t.Errorf("there are %d periods", len(all))
	}
}

func TestPeriodsOfWhatCheckRefuses(t *testing.T) {
	checkPeriods(t, "no kind", accrual(noKind))
	checkPeriods(t, "no step", accrual(span(3, 4, 0)))
	checkPeriods(t, "a step back", accrual(span(3, 4, -1)))
	checkPeriods(t, "To ahead of From", accrual(span(4, 3, 1)))
	checkPeriods(t, "To beyond the last month", accrual(span(1199, 1200, 1)))
	checkPeriods(t, "From ahead of the first month", accrual(span(-1, 3, 1)))
	checkPeriods(t, "no amount", allocation(amount(0)))
	checkPeriods(t, "no weights", allocation(split(0)))
}

func TestItems(t *testing.T) {
	checkItems(t, "none", plan.Items())
	checkItems(t, "one", plan.Items(allocation(rank(-4))), item(3, -4, 0), item(6, -4, 0), item(9, -4, 0))
	checkItems(t, "one that Check refuses", plan.Items(accrual(noKind)))
	checkItems(t, "the places of all count", plan.Items(accrual(), accrual(noKind), allocation(rank(5))),
		item(3, 5, 2), item(3, 0, 0), item(4, 0, 0), item(6, 5, 2), item(9, 5, 2))
	checkItems(t, "a template twice", plan.Items(accrual(), accrual()),
		item(3, 0, 0), item(3, 0, 1), item(4, 0, 0), item(4, 0, 1))
	number := func(t *plan.Template) { t.Id = 77 }
	checkItems(t, "Id is the place, not the template's", plan.Items(accrual(noKind), accrual(number, span(8, 8, 1))), item(8, 0, 1))
}

func TestItemsOfNoneTakeOthers(t *testing.T) {
	a := plan.Items()
	if n := a.Put(item(1, 2, 3)); n != 1 {
		t.Errorf("Put = %d", n)
	}
	checkItems(t, "behind Put", a, item(1, 2, 3))
}

// An Agenda has 1,000 items at most: those that come later go, whatever their periods.
func TestItemsOfTooMany(t *testing.T) {
	all := plan.Items(allocation(span(0, 1199, 1))).All()
	if len(all) != 1000 || all[0] != item(0, 0, 0) || all[999] != item(999, 0, 0) {
		t.Errorf("%d of one, up to %v", len(all), all[len(all)-1])
	}
	later, early := allocation(span(600, 1199, 1)), allocation(span(0, 599, 1))
	all = plan.Items(later, early).All()
	if len(all) != 1000 || all[0] != item(0, 0, 1) || all[399] != item(399, 0, 1) || all[400] != item(600, 0, 0) || all[999] != item(1199, 0, 0) {
		t.Errorf("%d of two, up to %v", len(all), all[len(all)-1])
	}
}

func checkRun(t *testing.T, what string, first int, l []plan.Template, want ...api.Journal) {
	t.Helper()
	got, err := plan.Run(first, l...)
	checkErr(t, what, err, api.OK)
	checkJournals(t, what, got, want)
}

func checkRunsNone(t *testing.T, what string, first int, l ...plan.Template) {
	t.Helper()
	got, err := plan.Run(first, l...)
	checkErr(t, what, err, api.ErrArg)
	checkJournals(t, what, got, nil)
}

func TestRunExample(t *testing.T) {
	checkRun(t, "the example", 10, []plan.Template{accrual()},
		journal(10, 1, 3, line(1, 5), line(2, -5)), journal(11, 1, 4, line(1, -5), line(2, 5)),
		journal(12, 1, 4, line(1, 5), line(2, -5)), journal(13, 1, 5, line(1, -5), line(2, 5)))
}

func TestRunInTheAgendasOrder(t *testing.T) {
	shared := func(period, id int) api.Journal { return journal(id, 1, period, line(1, 3), line(3, 7), line(9, -10)) }
	on := func(period, id int) api.Journal { return journal(id, 1, period, line(1, 5), line(2, -5)) }
	back := func(period, id int) api.Journal { return journal(id, 1, period, line(1, -5), line(2, 5)) }
	checkRun(t, "by Rank", 1, []plan.Template{accrual(), accrual(noKind), allocation(rank(5))},
		shared(3, 1), on(3, 2), back(4, 3), on(4, 4), back(5, 5), shared(6, 6), shared(9, 7))
	checkRun(t, "by place", 1, []plan.Template{accrual(), allocation()},
		on(3, 1), back(4, 2), shared(3, 3), on(4, 4), back(5, 5), shared(6, 6), shared(9, 7))
	checkRun(t, "in the last month", 1, []plan.Template{accrual(span(1199, 1199, 1)), allocation(span(1199, 1199, 1))},
		on(1199, 1), shared(1199, 2))
}

func TestRunOfNone(t *testing.T) {
	for _, first := range []int{math.MinInt, -5, 0, 1, api.MaxId + 1, math.MaxInt} {
		checkRun(t, "no template", first, nil)
		checkRun(t, "those that Check refuses", first, []plan.Template{accrual(noKind), allocation(amount(0))})
	}
}

func TestRunOfWrongNumbers(t *testing.T) {
	for _, first := range []int{math.MinInt, -1, 0, api.MaxId + 1, math.MaxInt - 1, math.MaxInt} {
		checkRunsNone(t, "the first number", first, accrual(), allocation())
		checkRunsNone(t, "the first number", first, allocation(), accrual())
	}
	checkRunsNone(t, "the last number is one too great", api.MaxId-2, accrual())
	checkRunsNone(t, "the third number is one too great", api.MaxId-1, allocation())
	checkRunsNone(t, "the first number is the last one", api.MaxId, accrual())
	shared := func(period, id int) api.Journal { return journal(id, 1, period, line(1, 3), line(3, 7), line(9, -10)) }
	checkRun(t, "the last number just fits", api.MaxId-2, []plan.Template{allocation()},
		shared(3, api.MaxId-2), shared(6, api.MaxId-1), shared(9, api.MaxId))
}

func TestRunOfTooMany(t *testing.T) {
	got, err := plan.Run(5, accrual(span(0, 1199, 1)), accrual(span(0, 1199, 1)))
	checkErr(t, "too many", err, api.OK)
	if len(got) != 2000 {
		t.Fatalf("%d journals", len(got))
	}
	for i, j := range got {
		if j.Id != 5+i || j.Period != (i+1)/2 {
			t.Errorf("journal %d is %d in %d", i, j.Id, j.Period)
		}
	}
}

// What is answered is new memory, and what is handed in stays (the rules for all packages).

func copies(l []api.Journal) []api.Journal {
	var made []api.Journal
	for _, j := range l {
		made = append(made, entry.Copy(j))
	}
	return made
}

func TestSharesNothing(t *testing.T) {
	targets, weights := []int{1, 2, 3}, []int{1, 0, 2}
	l := []plan.Template{accrual(), allocation(func(t *plan.Template) { t.Targets, t.Weights = targets, weights })}
	first, _ := plan.Run(1, l...)
	want := copies(first)
	for i, j := range first {
		clear(j.Lines[:cap(j.Lines)])
		checkJournals(t, "those behind it", first[i+1:], want[i+1:])
	}
	again, _ := plan.Run(1, l...)
	checkJournals(t, "behind writing to an answer", again, want)
	clear(targets)
	clear(weights)
	checkJournals(t, "behind writing to an argument", again, want)
}

func TestArgumentsStay(t *testing.T) {
	targets, weights := []int{1, 2, 3, 77}, []int{1, 0, 2, 77}
	x := allocation(func(t *plan.Template) { t.Targets, t.Weights = targets[:3], weights[:3] })
	plan.Check(x)
	plan.Make(x, 3, 1)
	plan.Periods(x)
	plan.Items(x, x)
	plan.Run(1, x, x)
	if !slices.Equal(targets, []int{1, 2, 3, 77}) || !slices.Equal(weights, []int{1, 0, 2, 77}) {
		t.Errorf("the lists became %v and %v", targets, weights)
	}
}

func TestPeriodsAreNewEachTime(t *testing.T) {
	x := allocation()
	l := plan.Periods(x)
	clear(l[:cap(l)])
	checkPeriods(t, "the second time", x, 3, 6, 9)
}
