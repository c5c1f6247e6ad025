package entry_test

import (
	"math"
	"math/rand"
	"slices"
	"strings"
	"testing"

	"variorum/api"
	"variorum/entry"
)

const most = api.MaxMoney

// line makes a line without a partner.
func line(account, amount int) api.Line { return api.Line{Account: account, Amount: amount} }

// good makes a journal that may be, with lines of its own each time.
func good() api.Journal {
	return api.Journal{Id: 7, Entity: 1, Period: 322, Ref: "A1", Lines: []api.Line{line(100, 5), {Account: 200, Amount: -5, Partner: 2}}}
}

// with makes a good journal that was changed.
func with(change func(j *api.Journal)) api.Journal {
	j := good()
	change(&j)
	return j
}

// withLines makes a good journal of other lines.
func withLines(l ...api.Line) api.Journal {
	return with(func(j *api.Journal) { j.Lines = l })
}

// alternate makes n lines that come to 0, or to 1 if n is odd.
func alternate(n int) []api.Line {
	l := make([]api.Line, n)
	for i := range l {
		l[i] = line(i+1, 1-2*(i%2))
	}
	return l
}

// checkErr holds an error against what is wanted.
func checkErr(t *testing.T, what string, got, want api.Errno) {
	t.Helper()
	if got != want {
		t.Errorf("%s: error %d, want %d", what, got, want)
	}
}

// alike holds two journals against each other field by field.
func alike(a, b api.Journal) bool {
	return a.Id == b.Id && a.Entity == b.Entity && a.Period == b.Period && a.Ref == b.Ref && a.Void == b.Void && slices.Equal(a.Lines, b.Lines)
}

// checkJournal holds a journal and an error against what is wanted.
func checkJournal(t *testing.T, what string, got api.Journal, err api.Errno, want api.Journal, wantErr api.Errno) {
	t.Helper()
	if !alike(got, want) || err != wantErr {
		t.Errorf("%s: %v, %d, want %v, %d", what, got, err, want, wantErr)
	}
}

// P401

func TestCheckOfNumbers(t *testing.T) {
	fields := []struct {
		name        string
		least, most int
		set         func(j *api.Journal, n int)
	}{
		{"Id", 1, api.MaxId, func(j *api.Journal, n int) { j.Id = n }},
		{"Entity", 3, api.MaxEntity, func(j *api.Journal, n int) { j.Entity = n }},
		{"Period", 0, api.MaxPeriod, func(j *api.Journal, n int) { j.Period = n }},
		{"Account", 1, api.MaxCode, func(j *api.Journal, n int) { j.Lines[0].Account = n }},
		{"the last Account", 1, api.MaxCode, func(j *api.Journal, n int) { j.Lines[1].Account = n }},
		{"Partner", 2, api.MaxEntity, func(j *api.Journal, n int) { j.Lines[0].Partner = n }},
		{"the last Partner", 2, api.MaxEntity, func(j *api.Journal, n int) { j.Lines[1].Partner = n }},
	}
	for _, f := range fields {
		for _, n := range []int{f.least, f.least + 1, f.most - 1, f.most} {
			checkErr(t, f.name+" that may be", entry.Check(with(func(j *api.Journal) { f.set(j, n) })), api.OK)
		}
		for _, n := range []int{math.MinInt, -1 << 32, -1, f.most + 1, 1 << 32, 1<<32 + f.most, math.MaxInt} {
			checkErr(t, f.name+" that may not be", entry.Check(with(func(j *api.Journal) { f.set(j, n) })), api.ErrArg)
		}
	}
	checkErr(t, "Id 0", entry.Check(with(func(j *api.Journal) { j.Id = 0 })), api.ErrArg)
	checkErr(t, "Entity 0", entry.Check(with(func(j *api.Journal) { j.Entity = 0 })), api.ErrArg)
	checkErr(t, "Account 0", entry.Check(with(func(j *api.Journal) { j.Lines[1].Account = 0 })), api.ErrArg)
	checkErr(t, "Partner 0", entry.Check(with(func(j *api.Journal) { j.Lines[1].Partner = 0 })), api.OK)
	checkErr(t, "void", entry.Check(with(func(j *api.Journal) { j.Void = true })), api.OK)
	checkErr(t, "a zero journal", entry.Check(api.Journal{}), api.ErrArg)
}

// An entity may be its own partner on no line.
func TestCheckOfPartners(t *testing.T) {
	for entity := 1; entity <= api.MaxEntity; entity++ {
		for partner := range api.MaxEntity + 1 {
			for at := range 3 {
				j := withLines(line(1, 2), line(1, -1), line(1, -1))
				j.Entity, j.Lines[at].Partner = entity, partner
				want := api.OK
				if partner == entity {
					want = api.ErrArg
				}
				checkErr(t, "a partner", entry.Check(j), want)
			}
		}
	}
}

func TestCheckOfRefs(t *testing.T) {
	check := func(ref string) api.Errno { return entry.Check(with(func(j *api.Journal) { j.Ref = ref })) }
	for _, ref := range []string{"", "A", "Z", "0", "9", "AZ09", "12345678", "ABCDEFGH"} {
		checkErr(t, ref, check(ref), api.OK)
	}
	for _, ref := range []string{"ABCDEFGHI", "123456789", strings.Repeat("A", 1<<16), "a", "-", " ", "A B", "A ", " A", "ÄÖ", "Ａ", "A\x00", "\xff", "A1,"} {
		checkErr(t, ref, check(ref), api.ErrArg)
	}
	for b := range 256 {
		want := api.ErrArg
		if strings.Contains("ABCDEFGHIJKLMNOPQRSTUVWXYZ0123456789", string(rune(b))) {
			want = api.OK
		}
		for _, ref := range []string{string([]byte{byte(b)}), "A" + string([]byte{byte(b)}), string([]byte{byte(b)}) + "9"} {
			checkErr(t, ref, check(ref), want)
		}
	}
}

func TestCheckOfHowManyLines(t *testing.T) {
	for n := range 20 {
		want := api.ErrArg
		if n >= 2 && n <= api.MaxLines {
			want = [2]api.Errno{api.OK, api.ErrBalance}[n%2]
		}
		checkErr(t, "lines", entry.Check(withLines(alternate(n)...)), want)
	}
	checkErr(t, "many lines", entry.Check(withLines(alternate(100_000)...)), api.ErrArg)
}

func TestCheckOfAmounts(t *testing.T) {
	rows := []struct {
		amounts []int
		want    api.Errno
	}{
		{[]int{1, -1}, api.OK},
		{[]int{-1, 1}, api.OK},
		{[]int{3, 4, -7}, api.OK},
		{[]int{most, -most}, api.OK},
		{[]int{most, most, most, most, -most, -most, -most, -most}, api.OK},
		{[]int{-most, -most, most, most}, api.OK},
		{[]int{5, -4}, api.ErrBalance},
		{[]int{5, 5}, api.ErrBalance},
		{[]int{most, most}, api.ErrBalance}, // each one fits, and no sum of them is asked to
		{[]int{-most, -most, -most, -most, -most, -most, -most, -most}, api.ErrBalance},
		{[]int{0, 0}, api.ErrArg},
		{[]int{5, -5, 0}, api.ErrArg},
		{[]int{most + 1, -most - 1}, api.ErrMoney},
		{[]int{5, -5, most + 1, -most - 1}, api.ErrMoney},
		{[]int{most + 1, -5}, api.ErrMoney},
		{[]int{5, -most - 1}, api.ErrMoney},
		{[]int{math.MinInt, 5}, api.ErrMoney},
		{[]int{math.MinInt, math.MinInt}, api.ErrMoney}, // they come to 0 within a word
		{[]int{math.MaxInt, 1, math.MinInt}, api.ErrMoney},
		{[]int{math.MaxInt, 0}, api.ErrArg},
	}
	for _, r := range rows {
		var l []api.Line
		for _, a := range r.amounts {
			l = append(l, line(1, a))
		}
		if got := entry.Check(withLines(l...)); got != r.want {
			t.Errorf("Check of amounts %v = %d, want %d", r.amounts, got, r.want)
		}
	}
}

// Where several errors fit ErrArg counts first, then ErrMoney, wherever they stand.
func TestCheckTellsTheFirstError(t *testing.T) {
	far, odd := line(1, most+1), line(1, 3)
	wrong := []api.Line{line(0, 5), line(10_000, 5), line(1, 0), {Account: 1, Amount: 5, Partner: 10}, {Account: 1, Amount: 5, Partner: 1}}
	for _, w := range wrong {
		checkErr(t, "a wrong line first", entry.Check(withLines(w, far, odd)), api.ErrArg)
		checkErr(t, "a wrong line last", entry.Check(withLines(odd, far, w)), api.ErrArg)
	}
	checkErr(t, "an amount that does not fit first", entry.Check(withLines(far, odd)), api.ErrMoney)
	checkErr(t, "an amount that does not fit last", entry.Check(withLines(odd, far)), api.ErrMoney)
	j := withLines(far, odd)
	j.Ref = "a"
	checkErr(t, "a wrong reference", entry.Check(j), api.ErrArg)
}

func TestSame(t *testing.T) {
	changes := []func(j *api.Journal){
		func(j *api.Journal) { j.Id++ },
		func(j *api.Journal) { j.Entity++ },
		func(j *api.Journal) { j.Period-- },
		func(j *api.Journal) { j.Ref = "A2" },
		func(j *api.Journal) { j.Ref = "" },
		func(j *api.Journal) { j.Void = true },
		func(j *api.Journal) { j.Lines[0].Account++ },
		func(j *api.Journal) { j.Lines[0].Amount++ },
		func(j *api.Journal) { j.Lines[1].Partner = 0 },
		func(j *api.Journal) { slices.Reverse(j.Lines) },
		func(j *api.Journal) { j.Lines = j.Lines[:1] },
		func(j *api.Journal) { j.Lines = append(j.Lines, api.Line{}) },
		func(j *api.Journal) { j.Lines = nil },
	}
	for i, change := range changes {
		if other := with(change); entry.Same(good(), other) || entry.Same(other, good()) {
			t.Errorf("change %d: Same as %v", i, other)
		}
		if !entry.Same(with(change), with(change)) {
			t.Errorf("change %d: not the same as itself", i)
		}
	}
	if !entry.Same(good(), good()) || !entry.Same(api.Journal{}, api.Journal{}) {
		t.Errorf("not the same as itself")
	}
	if !entry.Same(withLines(), withLines([]api.Line{}...)) || !entry.Same(withLines([]api.Line{}...), with(func(j *api.Journal) { j.Lines = nil })) {
		t.Errorf("nil lines are not the same as empty ones")
	}
}

func TestCopy(t *testing.T) {
	roomy := make([]api.Line, 2, 9)
	copy(roomy, good().Lines)
	for _, j := range []api.Journal{good(), {}, withLines(roomy...), withLines(alternate(50)...), withLines([]api.Line{}...),
		{Id: math.MinInt, Entity: -1, Period: 5_000, Ref: "no such", Void: true, Lines: []api.Line{{Account: -1, Amount: math.MaxInt, Partner: 99}}}} {
		c := entry.Copy(j)
		if !alike(c, j) {
			t.Errorf("Copy(%v) = %v", j, c)
		}
		before := slices.Clone(j.Lines)
		for i := range c.Lines {
			c.Lines[i].Amount = 999
		}
		_ = append(c.Lines, line(1, 1))
		if !slices.Equal(j.Lines, before) || cap(j.Lines) > len(j.Lines) && j.Lines[:len(j.Lines)+1][len(j.Lines)] != (api.Line{}) {
			t.Errorf("a write into the copy came into %v", j)
		}
	}
}

// P402

func TestReverse(t *testing.T) {
	want := api.Journal{Id: 8, Entity: 1, Period: 323, Lines: []api.Line{line(100, -5), {Account: 200, Amount: 5, Partner: 2}}}
	got, err := entry.Reverse(good(), 8, 323)
	checkJournal(t, "Reverse", got, err, want, api.OK)
	got, err = entry.Reverse(with(func(j *api.Journal) { j.Void = true }), 8, 323)
	checkJournal(t, "Reverse of a void one", got, err, want, api.OK)
	got, err = entry.Reverse(withLines(line(9_999, most), line(1, -most)), api.MaxId, 0)
	checkJournal(t, "Reverse of the most", got, err, api.Journal{Id: api.MaxId, Entity: 1, Lines: []api.Line{line(9_999, -most), line(1, most)}}, api.OK)
	got, err = entry.Reverse(good(), 7, 322)
	want.Id, want.Period = 7, 322
	checkJournal(t, "Reverse to its own id and period", got, err, want, api.OK)
}

func TestReverseOfWrongOnes(t *testing.T) {
	rows := []struct {
		j          api.Journal
		id, period int
		err        api.Errno
	}{
		{good(), 0, 323, api.ErrArg},
		{good(), -8, 323, api.ErrArg},
		{good(), api.MaxId + 1, 323, api.ErrArg},
		{good(), math.MinInt, 323, api.ErrArg},
		{good(), 8, -1, api.ErrArg},
		{good(), 8, api.MaxPeriod + 1, api.ErrArg},
		{good(), 8, math.MaxInt, api.ErrArg},
		{withLines(line(1, 5), line(2, -4)), 8, 323, api.ErrBalance},
		{withLines(line(1, most+1), line(2, -most-1)), 8, 323, api.ErrMoney},
		{withLines(line(1, math.MinInt), line(2, math.MinInt)), 8, 323, api.ErrMoney},
		{withLines(line(1, 5)), 8, 323, api.ErrArg},
		{api.Journal{}, 8, 323, api.ErrArg},
		// the error of the journal itself counts first, and all of it is asked
		{withLines(line(1, 5), line(2, -4)), 0, 323, api.ErrBalance},
		{withLines(line(1, most+1), line(2, -1)), 8, -1, api.ErrMoney},
		{with(func(j *api.Journal) { j.Id = 0 }), 8, 323, api.ErrArg},
		{with(func(j *api.Journal) { j.Period = api.MaxPeriod + 1 }), 8, 323, api.ErrArg},
		{with(func(j *api.Journal) { j.Ref = "a" }), 8, 323, api.ErrArg},
	}
	for _, r := range rows {
		got, err := entry.Reverse(r.j, r.id, r.period)
		checkJournal(t, "Reverse", got, err, api.Journal{}, r.err)
	}
}

// What is handed in stays, and no answer shares lines with it or with another answer.
func TestReverseSharesNothing(t *testing.T) {
	j := good()
	first, _ := entry.Reverse(j, 8, 323)
	if !alike(j, good()) {
		t.Fatalf("the journal became %v", j)
	}
	first.Lines[0].Amount = 999
	if !alike(j, good()) {
		t.Errorf("a write into the answer came into %v", j)
	}
	if second, _ := entry.Reverse(j, 8, 323); second.Lines[0].Amount != -5 {
		t.Errorf("a write into an answer came into a later one: %v", second)
	}
}

func TestTotal(t *testing.T) {
	rows := []struct {
		j    api.Journal
		want int
	}{
		{good(), 5},
		{with(func(j *api.Journal) { j.Void = true }), 5},
		{withLines(line(1, -12), line(2, 7), line(1, 5)), 12},
		{withLines(line(1, most), line(2, -most)), most},
		{withLines(line(1, most), line(1, most), line(1, most), line(1, most), line(2, -most), line(2, -most), line(2, -most), line(2, -most)), 4 * most},
		{withLines(line(1, 5), line(2, -4)), 0},
		{withLines(line(1, 5)), 0},
		{withLines(line(1, most+1), line(2, -most-1)), 0},
		{with(func(j *api.Journal) { j.Id = 0 }), 0},
		{api.Journal{}, 0},
	}
	for _, r := range rows {
		if got := entry.Total(r.j); got != r.want {
			t.Errorf("Total(%v) = %d, want %d", r.j, got, r.want)
		}
	}
}

// random makes a journal that may be.
func random(r *rand.Rand) api.Journal {
	j := api.Journal{Id: 1 + r.Intn(api.MaxId), Entity: 1 + r.Intn(api.MaxEntity), Period: r.Intn(api.MaxPeriod + 1), Void: r.Intn(2) == 0}
	for range r.Intn(api.MaxRef + 1) {
		j.Ref += string("ABCXYZ0189"[r.Intn(10)])
	}
	pairs := 1 + r.Intn(api.MaxLines/2)
	for range pairs {
		amount := 1 + r.Intn(most>>r.Intn(50))
		for _, a := range []int{amount, -amount} {
			partner := r.Intn(api.MaxEntity + 1)
			if partner == j.Entity {
				partner = 0
			}
			j.Lines = append(j.Lines, api.Line{Account: 1 + r.Intn(api.MaxCode), Amount: a, Partner: partner})
		}
	}
	r.Shuffle(len(j.Lines), func(a, b int) { j.Lines[a], j.Lines[b] = j.Lines[b], j.Lines[a] })
	return j
}

// A journal and the one that undoes it come to 0 line by line, with the same total.
func TestReverseOfRandomOnes(t *testing.T) {
	r := rand.New(rand.NewSource(402))
	for range 2_000 {
		j := random(r)
		checkErr(t, "a random journal", entry.Check(j), api.OK)
		got, err := entry.Reverse(j, 1, 0)
		if err != api.OK || len(got.Lines) != len(j.Lines) || got.Ref != "" || got.Void || got.Entity != j.Entity || entry.Total(got) != entry.Total(j) {
			t.Fatalf("Reverse(%v) = %v, %d", j, got, err)
		}
		for i, l := range got.Lines {
			if l.Amount = -l.Amount; l != j.Lines[i] {
				t.Fatalf("Reverse(%v) = %v", j, got)
			}
		}
	}
}
