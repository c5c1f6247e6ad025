package sheet_test

import (
	"math/rand"
	"testing"

	"variorum/api"
	"variorum/book"
	"variorum/chart"
	"variorum/sheet"
)

// What follows answers from plain lists what sheet should.

// kinds has what each account that is drawn is; accounts 6 and 7 are in no chart.
func kinds() map[int]int {
	return map[int]int{1: api.Income, 2: api.Equity, 3: api.Asset, 4: api.Expense, 5: api.Liability}
}

func chartOfKinds(t *testing.T) *chart.Chart {
	t.Helper()
	c := &chart.Chart{}
	for code, kind := range kinds() {
		checkErr(t, "Add", c.Add(code, kind), api.OK)
	}
	return c
}

func tooGreat(x int) bool { return x > most || x < -most }

// modelSums tells by account what an entity's journals of a span come to, and whether one of them is too great.
func modelSums(journals []api.Journal, entity, from, to int) (sums [8]int, great bool) {
	for _, j := range journals {
		for _, x := range j.Lines {
			if !j.Void && j.Entity == entity && j.Period >= from && j.Period <= to {
				sums[x.Account] += x.Amount
			}
		}
	}
	for _, sum := range sums {
		great = great || tooGreat(sum)
	}
	return sums, great
}

// modelNet tells what the journals of a span earned, and whether something of it is too great.
func modelNet(journals []api.Journal, entity, from, to int) (int, bool) {
	sums, great := modelSums(journals, entity, from, to)
	net := -sums[1] - sums[4]
	return net, great || tooGreat(net)
}

func listed(account, amount int) list {
	if amount == 0 {
		return nil
	}
	return list{balance(account, amount)}
}

func modelMake(journals []api.Journal, entity, period int) (sheet.Sheet, api.Errno) {
	if entity < 1 || entity > 9 || period < 0 || period > 1199 {
		return sheet.Sheet{}, api.ErrArg
	}
	sums, great := modelSums(journals, entity, 0, period)
	first := period / 12 * 12
	retained, greatAhead := modelNet(journals, entity, 0, first-1)
	current, greatInYear := modelNet(journals, entity, first, period)
	other := -sums[6] - sums[7]
	if great || greatAhead || greatInYear || tooGreat(other) {
		return sheet.Sheet{}, api.ErrMoney
	}
	return with(of(sums[3], -sums[5], -sums[2], retained, current, other),
		listed(3, sums[3]), listed(5, -sums[5]), listed(2, -sums[2])), api.OK
}

func modelRoll(journals []api.Journal, entity, year int) ([3]int, api.Errno) {
	if year < 2000 || year > 2099 {
		return [3]int{}, api.ErrArg
	}
	s, err := modelMake(journals, entity, 12*(year-2000)+11)
	if err != api.OK {
		return [3]int{}, err
	}
	if tooGreat(s.Retained + s.Current) {
		return [3]int{}, api.ErrMoney
	}
	return [3]int{s.Retained, s.Current, s.Retained + s.Current}, api.OK
}

// drawnAmount is mostly small, else near the greatest one.
func drawnAmount(r *rand.Rand) int {
	if r.Intn(12) > 0 {
		return 1 + r.Intn(6)
	}
	return most - r.Intn(3)
}

// drawnBook makes a book of few entities and of periods round the turns of years, and the list of what it has.
func drawnBook(r *rand.Rand) (*book.Book, []api.Journal) {
	b := &book.Book{}
	for range r.Intn(12) {
		j := journal(1+r.Intn(30), 1+r.Intn(2), drawnPeriod(r))
		j.Void = r.Intn(5) == 0
		for range 1 + r.Intn(3) {
			amount := drawnAmount(r) * (2*r.Intn(2) - 1)
			j.Lines = append(j.Lines, line(1+r.Intn(7), amount), line(1+r.Intn(7), -amount))
		}
		b.Post(j)
	}
	return b, b.All()
}

func drawnPeriod(r *rand.Rand) int {
	return max(0, 12*r.Intn(4)+r.Intn(4)-2)
}

// TestAgainstPlainLists holds P1201 and P1202 against plain lists, and looks that each error comes up.
func TestAgainstPlainLists(t *testing.T) {
	r := rand.New(rand.NewSource(1201))
	c, seen := chartOfKinds(t), map[api.Errno]int{}
	for range 5000 {
		b, journals := drawnBook(r)
		entity, period, year := 1+r.Intn(2), drawnPeriod(r), 2000+r.Intn(4)
		switch r.Intn(20) {
		case 0:
			entity = 10 * r.Intn(2)
		case 1:
			period, year = -1, 1999
		case 2:
			period, year = latest+1, 2100
		}
		want, wantErr := modelMake(journals, entity, period)
		seen[wantErr]++
		got, err := sheet.Make(c, b, entity, period)
		checkErr(t, "Make", err, wantErr)
		checkSheet(t, "Make", got, want)
		if !sheet.Holds(got) {
			t.Errorf("%v does not hold", got)
		}
		wantThree, wantErr := modelRoll(journals, entity, year)
		ahead, net, both, err := sheet.Roll(c, b, entity, year)
		if three := [3]int{ahead, net, both}; three != wantThree || err != wantErr {
			t.Errorf("Roll: %v, %d, want %v, %d", three, err, wantThree, wantErr)
		}
		if t.Failed() {
			t.Fatalf("entity %d, period %d, year %d of %v", entity, period, year, journals)
		}
	}
	if seen[api.OK] < 1000 || seen[api.ErrArg] < 100 || seen[api.ErrMoney] < 100 {
		t.Errorf("too few of a kind were drawn: %v", seen)
	}
}

// What a year ends with is what the next one starts with.
func TestRollGoesOn(t *testing.T) {
	r := rand.New(rand.NewSource(1202))
	c, told := chartOfKinds(t), 0
	for range 1000 {
		b, _ := drawnBook(r)
		for year := 2000; year < 2004; year++ {
			_, _, both, err := sheet.Roll(c, b, 1, year)
			ahead, _, _, errOfNext := sheet.Roll(c, b, 1, year+1)
			if err != api.OK || errOfNext != api.OK {
				continue
			}
			if both != ahead {
				t.Fatalf("%d ends with %d, the next year starts with %d", year, both, ahead)
			}
			if both != 0 {
				told++
			}
		}
	}
	if told < 500 {
		t.Errorf("only %d were above or below 0", told)
	}
}

// TestHoldsAgainstPlainSums draws sheets that nearly hold, some with sums round the greatest.
func TestHoldsAgainstPlainSums(t *testing.T) {
	r := rand.New(rand.NewSource(1203))
	seen := map[bool]int{}
	for range 3000 {
		var five [5]int
		sum := r.Intn(4) / 3
		for i := range five {
			five[i] = (r.Intn(5) - 2) * (most/2 + r.Intn(2)*r.Intn(2))
			sum += five[i]
		}
		want := !tooGreat(sum)
		for _, x := range five {
			want = want && !tooGreat(x)
		}
		off := r.Intn(8) / 7
		s := of(sum+off, five[0]-off, five[1]+off, five[2], five[3], five[4])
		want = want && sum+off == s.Owed+s.Held+s.Retained+s.Current+s.Other
		for _, x := range sixOf(s) {
			want = want && !tooGreat(x)
		}
		seen[want]++
		if sheet.Holds(s) != want {
			t.Fatalf("Holds of %v is not %v", s, want)
		}
	}
	if seen[true] < 500 || seen[false] < 500 {
		t.Errorf("too few of a kind were drawn: %v", seen)
	}
}
