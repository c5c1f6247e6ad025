package plan_test

import (
	"math/rand"
	"slices"
	"testing"

	"variorum/agenda"
	"variorum/api"
	"variorum/plan"
)

// What follows answers from plain lists what plan should.

func modelCheck(t plan.Template) api.Errno {
	ok := t.Id >= 1 && t.Id <= 999999 && t.Entity >= 1 && t.Entity <= 9 && t.From >= 0 && t.To <= 1199 && t.From <= t.To &&
		t.Every >= 1 && t.Every <= 60 && t.Amount >= 1 && t.Amount <= most && t.Credit >= 1 && t.Credit <= 9999
	switch t.Kind {
	case 1:
		ok = ok && t.Debit >= 1 && t.Debit <= 9999 && t.Debit != t.Credit && len(t.Targets)+len(t.Weights) == 0
	case 2:
		ok = ok && len(t.Targets) >= 1 && len(t.Targets) <= 7 && len(t.Weights) == len(t.Targets) && modelRises(t.Targets) &&
			!slices.Contains(t.Targets, t.Credit) && slices.Max(t.Weights) >= 1 && slices.Max(t.Weights) <= 1_000_000 && slices.Min(t.Weights) >= 0
	default:
		ok = false
	}
	if !ok {
		return api.ErrArg
	}
	return api.OK
}

func modelRises(l []int) bool {
	for i, x := range l {
		if x < 1 || x > 9999 || i > 0 && x <= l[i-1] {
			return false
		}
	}
	return true
}

func modelPeriods(t plan.Template) []int {
	var l []int
	for p := range 1200 {
		if modelCheck(t) == api.OK && p >= t.From && p <= t.To && (p-t.From)%t.Every == 0 {
			l = append(l, p)
		}
	}
	return l
}

// modelSplit deals what rounding down left one by one; it takes amounts alone whose products fit.
func modelSplit(whole int, weights []int) []int {
	total := 0
	for _, w := range weights {
		total += w
	}
	parts, cut, left := make([]int, len(weights)), make([]int, len(weights)), whole
	for i, w := range weights {
		parts[i], cut[i] = whole*w/total, whole*w%total
		left -= parts[i]
	}
	for range left {
		i := slices.Index(cut, slices.Max(cut))
		parts[i]++
		cut[i] = -1
	}
	return parts
}

func modelLines(t plan.Template) []api.Line {
	targets, parts := []int{t.Debit}, []int{t.Amount}
	if t.Kind == plan.Allocation {
		targets, parts = t.Targets, modelSplit(t.Amount, t.Weights)
	}
	var lines []api.Line
	for i, part := range parts {
		if part > 0 {
			lines = append(lines, api.Line{Account: targets[i], Amount: part})
		}
	}
	return append(lines, api.Line{Account: t.Credit, Amount: -t.Amount})
}

func modelMake(t plan.Template, period, id int) ([]api.Journal, api.Errno) {
	if !slices.Contains(modelPeriods(t), period) || id < 1 || id > 999999 {
		return nil, api.ErrArg
	}
	list := []api.Journal{{Id: id, Entity: t.Entity, Period: period, Lines: modelLines(t)}}
	if t.Kind == plan.Allocation || period == 1199 {
		return list, api.OK
	}
	if id == 999999 {
		return nil, api.ErrArg
	}
	back := api.Journal{Id: id + 1, Entity: t.Entity, Period: period + 1}
	for _, l := range modelLines(t) {
		back.Lines = append(back.Lines, api.Line{Account: l.Account, Amount: -l.Amount})
	}
	return append(list, back), api.OK
}

// modelItems takes the first 1,000 as they come, and sorts them, which leaves like ones in that order.
func modelItems(l []plan.Template) []agenda.Item {
	var all []agenda.Item
	for i, t := range l {
		for _, p := range modelPeriods(t) {
			all = append(all, agenda.Item{Period: p, Rank: t.Rank, Id: i})
		}
	}
	all = all[:min(len(all), 1000)]
	slices.SortStableFunc(all, func(x, y agenda.Item) int {
		switch {
		case x.Period != y.Period:
			return x.Period - y.Period
		case x.Rank != y.Rank:
			return y.Rank - x.Rank
		}
		return x.Id - y.Id
	})
	return all
}

func modelRun(first int, l []plan.Template) ([]api.Journal, api.Errno) {
	var list []api.Journal
	for _, x := range modelItems(l) {
		made, err := modelMake(l[x.Id], x.Period, first+len(list))
		if err != api.OK {
			return nil, err
		}
		list = append(list, made...)
	}
	return list, api.OK
}

// one tells one of a list, mostly the first.
func one(r *rand.Rand, l ...int) int {
	if r.Intn(12) > 0 {
		return l[0]
	}
	return l[r.Intn(len(l))]
}

// drawn draws a template that mostly may be.
func drawn(r *rand.Rand) plan.Template {
	from := one(r, r.Intn(30), 1190+r.Intn(10), -1, 1200)
	t := plan.Template{
		Kind:   one(r, 1+r.Intn(2), 0, 3),
		Id:     one(r, 1+r.Intn(99), 0, 999999, 1000000),
		Entity: one(r, 1+r.Intn(9), 0, 10),
		From:   from,
		To:     one(r, from+r.Intn(40), from-1, 1199, 1200),
		Every:  one(r, 1+r.Intn(8), 0, 60, 61),
		Amount: one(r, 1+r.Intn(50), 0, 1_000_000_000_000, -1),
		Debit:  one(r, 1+r.Intn(9), 0, 9999, 10000),
		Credit: one(r, 10+r.Intn(9), 0, 5, 9999, 10000),
		Rank:   r.Intn(3) - 1,
	}
	if one(r, t.Kind, 3-t.Kind) == plan.Allocation {
		t.Targets, t.Weights = drawnTargets(r)
	}
	return t
}

func drawnTargets(r *rand.Rand) (targets, weights []int) {
	n := one(r, 1+r.Intn(7), 0, 8)
	for i := range n {
		targets = append(targets, one(r, i+1, i, i+2))
		weights = append(weights, one(r, r.Intn(9), -1, 1_000_000, 1_000_001))
	}
	return targets, weights[:one(r, n, 0)]
}

func checkAgainstModel(t *testing.T, r *rand.Rand, l []plan.Template) {
	t.Helper()
	for _, x := range l {
		checkErr(t, "Check", plan.Check(x), modelCheck(x))
		checkPeriods(t, "one", x, modelPeriods(x)...)
		period, id := one(r, x.From+x.Every*r.Intn(4), r.Intn(60), 1199), one(r, 1+r.Intn(99), 0, 999998, 999999, 1000000)
		want, wantErr := modelMake(x, period, id)
		got, err := plan.Make(x, period, id)
		checkErr(t, "Make", err, wantErr)
		checkJournals(t, "Make", got, want)
	}
	checkItems(t, "Items", plan.Items(l...), modelItems(l)...)
	first := one(r, 1+r.Intn(99), 0, 999900, 999999, 1000000)
	want, wantErr := modelRun(first, l)
	got, err := plan.Run(first, l...)
	checkErr(t, "Run", err, wantErr)
	checkJournals(t, "Run", got, want)
}

func TestAgainstPlainLists(t *testing.T) {
	r := rand.New(rand.NewSource(901))
	mayBe := 0
	for range 400 {
		l := make([]plan.Template, r.Intn(6))
		for i := range l {
			l[i] = drawn(r)
			if modelCheck(l[i]) == api.OK {
				mayBe++
			}
		}
		checkAgainstModel(t, r, l)
		if t.Failed() {
			t.Fatalf("of %+v", l)
		}
	}
	if mayBe < 200 {
		t.Errorf("only %d templates may be", mayBe)
	}
}
