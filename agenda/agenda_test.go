package agenda_test

import (
	"cmp"
	"math"
	"math/rand"
	"slices"
	"testing"

	"variorum/agenda"
)

const most = 1000

func item(period, rank, id int) agenda.Item {
	return agenda.Item{Period: period, Rank: rank, Id: id}
}

// made makes an agenda of items.
func made(l ...agenda.Item) *agenda.Agenda {
	a := &agenda.Agenda{}
	a.Put(l...)
	return a
}

func checkCount(t *testing.T, what string, got, want int) {
	t.Helper()
	if got != want {
		t.Errorf("%s = %d, want %d", what, got, want)
	}
}

func checkList(t *testing.T, what string, got []agenda.Item, want ...agenda.Item) {
	t.Helper()
	if !slices.Equal(got, want) {
		t.Errorf("%s = %v, want %v", what, got, want)
	}
}

// checkAll asks an agenda for all that it has, in each way that leaves it there.
func checkAll(t *testing.T, what string, a *agenda.Agenda, want ...agenda.Item) {
	t.Helper()
	checkList(t, what+": All()", a.All(), want...)
	checkCount(t, what+": Len()", a.Len(), len(want))
	checkCount(t, what+": Put()", a.Put(), len(want))
}

// checkNext takes items one by one, up to the end.
func checkNext(t *testing.T, what string, a *agenda.Agenda, want ...agenda.Item) {
	t.Helper()
	for i, w := range want {
		if got, ok := a.Next(); got != w || !ok {
			t.Errorf("%s: Next() %d = %v, %t, want %v", what, i, got, ok, w)
		}
	}
	if got, ok := a.Next(); got != item(0, 0, 0) || ok {
		t.Errorf("%s: Next() of none = %v, %t", what, got, ok)
	}
}

// P801

func TestExample(t *testing.T) {
	a := &agenda.Agenda{}
	checkCount(t, "Put", a.Put(item(5, 0, 1), item(3, 0, 2), item(3, 9, 3)), 3)
	if got, ok := a.Next(); got != item(3, 9, 3) || !ok {
		t.Errorf("Next() = %v, %t", got, ok)
	}
	checkList(t, "Due(9)", a.Due(9), item(3, 0, 2), item(5, 0, 1))
	checkAll(t, "behind it", a)
}

func TestZeroAgendaIsEmpty(t *testing.T) {
	var a agenda.Agenda
	checkAll(t, "a zero one", &a)
	checkNext(t, "a zero one", &a)
	checkList(t, "Due", a.Due(math.MaxInt))
	checkCount(t, "Take", a.Take(0), 0)
	checkCount(t, "Put", a.Put(item(1, 2, 3)), 1)
	checkAll(t, "with one", &a, item(1, 2, 3))
}

func TestNilAgenda(t *testing.T) {
	var a *agenda.Agenda
	checkCount(t, "Put of some", a.Put(item(1, 1, 1), item(2, 2, 2)), 0)
	checkAll(t, "a nil one", a)
	checkNext(t, "a nil one", a)
	checkList(t, "Due", a.Due(math.MaxInt))
	checkCount(t, "Take", a.Take(1), 0)
}

// inOrder has items of which each stands ahead of all behind it, by what is named beside it.
func inOrder() []agenda.Item {
	return []agenda.Item{
		item(math.MinInt, math.MinInt, 0), // the lesser Period, whatever the Rank
		item(-1, 0, 9),                    // the lesser Period, whatever the Id
		item(0, math.MaxInt, 9),           // the greater Rank, whatever the Id
		item(0, 7, math.MinInt),           // the lesser Id
		item(0, 7, -1),
		item(0, 7, 0),
		item(0, 7, math.MaxInt),
		item(0, 1, 0), // the greater Rank
		item(0, 0, 0),
		item(0, -1, 0),
		item(0, math.MinInt, 0),
		item(1, 5, 3), // the lesser Period
		item(math.MaxInt, math.MaxInt, math.MinInt),
	}
}

func TestOrder(t *testing.T) {
	want := inOrder()
	r := rand.New(rand.NewSource(801))
	for range 50 {
		mixed := slices.Clone(want)
		r.Shuffle(len(mixed), func(i, j int) { mixed[i], mixed[j] = mixed[j], mixed[i] })
		checkAll(t, "mixed", made(mixed...), want...)
		checkNext(t, "mixed", made(mixed...), want...)
		checkList(t, "mixed: Due", made(mixed...).Due(math.MaxInt), want...)
	}
}

func TestOrderOfEachTwo(t *testing.T) {
	want := inOrder()
	for i, x := range want {
		for _, y := range want[i+1:] {
			checkAll(t, "two", made(x, y), x, y)
			checkNext(t, "two turned", made(y, x), x, y)
		}
	}
}

func TestEqualItemsAllStay(t *testing.T) {
	x, y := item(4, 4, 4), item(4, 4, 5)
	a := made(x, y, x, y, x)
	checkAll(t, "five", a, x, x, x, y, y)
	checkCount(t, "Take", a.Take(4), 3)
	checkNext(t, "two", a, y, y)
}

func TestPutTellsHowManyThereAre(t *testing.T) {
	a := &agenda.Agenda{}
	checkCount(t, "Put of none", a.Put(), 0)
	checkCount(t, "Put of an empty list", a.Put([]agenda.Item{}...), 0)
	checkCount(t, "Put of two", a.Put(item(1, 0, 1), item(2, 0, 2)), 2)
	checkCount(t, "Put of one more", a.Put(item(0, 0, 3)), 3)
	checkCount(t, "Put of none", a.Put(), 3)
	a.Next()
	checkCount(t, "Put of one behind Next", a.Put(item(0, 0, 4)), 3)
}

// many has n items, the later ones ahead.
func many(n int) []agenda.Item {
	l := make([]agenda.Item, n)
	for i := range l {
		l[i] = item(-i, 0, i)
	}
	return l
}

func TestFull(t *testing.T) {
	first := item(math.MinInt, math.MaxInt, math.MinInt)
	l := many(most)
	want := slices.Clone(l)
	slices.Reverse(want)

	a := made(l[:most-1]...)
	checkCount(t, "one less", a.Len(), most-1)
	checkCount(t, "the last one", a.Put(l[most-1]), most)
	checkCount(t, "one too many", a.Put(first), most)
	checkCount(t, "some too many", a.Put(first, item(5, 5, 5), first), most)
	checkAll(t, "full", a, want...)
	checkCount(t, "Take of what went", a.Take(first.Id), 0)
	checkNext(t, "full", a, want...)
}

func TestFullWithinOnePut(t *testing.T) {
	l := many(most + 3)
	want := slices.Clone(l[:most])
	slices.Reverse(want)
	a := &agenda.Agenda{}
	checkCount(t, "Put", a.Put(l...), most)
	checkAll(t, "from none", a, want...)

	b := made(l[:most-2]...)
	checkCount(t, "Put", b.Put(l[most-2:]...), most)
	checkAll(t, "from two less", b, want...)
}

func TestFullHasRoomAgain(t *testing.T) {
	x := item(7, 7, -7)
	a := made(many(most)...)
	a.Next()
	checkCount(t, "behind Next", a.Put(x, x), most)
	checkCount(t, "of which one stayed", a.Take(-7), 1)
	checkCount(t, "behind Take", a.Put(x, x), most)
	checkCount(t, "of which one stayed", a.Take(-7), 1)
	checkCount(t, "that are due", len(a.Due(4-most)), 3)
	checkCount(t, "behind Due", a.Put(x, x, x, x, x), most)
	checkCount(t, "of which four stayed", a.Take(-7), 4)
}

func TestDue(t *testing.T) {
	x, y, z, last := item(-3, 0, 1), item(2, 9, 2), item(2, -9, 1), item(math.MaxInt, 0, 0)
	a := made(last, z, x, y)
	checkList(t, "Due of the least", a.Due(math.MinInt))
	checkList(t, "Due(-4)", a.Due(-4))
	checkAll(t, "as it was", a, x, y, z, last)
	checkList(t, "Due(-3)", a.Due(-3), x)
	checkList(t, "Due(-3) again", a.Due(-3))
	checkList(t, "Due(1)", a.Due(1))
	checkAll(t, "less one", a, y, z, last)
	checkList(t, "Due(2)", a.Due(2), y, z)
	checkList(t, "one below the greatest", a.Due(math.MaxInt-1))
	checkList(t, "the greatest", a.Due(math.MaxInt), last)
	checkAll(t, "none is left", a)
}

func TestTake(t *testing.T) {
	x, y, z := item(9, 0, 4), item(0, 0, 4), item(3, 8, 4)
	p, q, r := item(8, 0, 1), item(1, 0, 6), item(4, 0, -4)
	a := made(x, p, y, q, z, r)
	checkCount(t, "Take(5)", a.Take(5), 0)
	checkAll(t, "as it was", a, y, q, z, r, p, x)
	checkCount(t, "Take(4)", a.Take(4), 3)
	checkCount(t, "Take(4) again", a.Take(4), 0)
	checkAll(t, "less three", a, q, r, p)
	checkCount(t, "Take(1)", a.Take(1), 1)
	checkCount(t, "Put behind it", a.Put(x), 3)
	checkNext(t, "the rest", a, q, r, x)
}

// Taking from the midst must leave the first one first, whatever stood where.
func TestNextBehindTake(t *testing.T) {
	r := rand.New(rand.NewSource(802))
	for range 300 {
		a, model := &agenda.Agenda{}, &plain{}
		l := drawn(r, 1+r.Intn(30))
		a.Put(l...)
		model.put(l...)
		id := r.Intn(4)
		checkCount(t, "Take", a.Take(id), model.take(id))
		checkNext(t, "behind Take", a, model.sorted()...)
	}
}

// What is answered is new memory, and what is handed in stays (the rules for all packages).
func TestSharesNothing(t *testing.T) {
	in := []agenda.Item{item(3, 0, 3), item(1, 0, 1), item(2, 0, 2)}
	kept := slices.Clone(in)
	a := &agenda.Agenda{}
	a.Put(in...)
	checkList(t, "what was handed in", in, kept...)
	in[1] = item(-77, 0, 0)
	checkAll(t, "the list was written to", a, kept[1], kept[2], kept[0])

	all := a.All()
	all[0].Period = 77
	checkAll(t, "All was written to", a, kept[1], kept[2], kept[0])

	due := a.Due(2)
	all = a.All()
	a.Put(item(0, 0, 8), item(0, 0, 9), item(0, 0, 10))
	checkList(t, "All behind Put", all, kept[0])
	checkList(t, "Due behind Put", due, kept[1], kept[2])
	due[0], due[1] = item(-5, 5, 5), item(-6, 6, 6)
	a.Next()
	checkAll(t, "Due was written to", a, item(0, 0, 9), item(0, 0, 10), kept[0])
	checkList(t, "All behind Next", all, kept[0])
}

func TestTwoAgendasAreTwo(t *testing.T) {
	a, b := made(item(1, 0, 1)), made(item(2, 0, 2))
	a.Put(item(0, 0, 0))
	checkCount(t, "Take", b.Take(1), 0)
	checkAll(t, "the first", a, item(0, 0, 0), item(1, 0, 1))
	checkAll(t, "the second", b, item(2, 0, 2))
}

// plain is what P801 says, as a list in the order in which items were put in.
type plain struct{ l []agenda.Item }

func (p *plain) put(l ...agenda.Item) int {
	for _, x := range l {
		if len(p.l) < most {
			p.l = append(p.l, x)
		}
	}
	return len(p.l)
}

func (p *plain) sorted() []agenda.Item {
	l := slices.Clone(p.l)
	slices.SortStableFunc(l, func(x, y agenda.Item) int {
		if x.Period != y.Period {
			return cmp.Compare(x.Period, y.Period)
		}
		if x.Rank != y.Rank {
			return cmp.Compare(y.Rank, x.Rank)
		}
		return cmp.Compare(x.Id, y.Id)
	})
	return l
}

func (p *plain) next() (agenda.Item, bool) {
	if len(p.l) == 0 {
		return agenda.Item{}, false
	}
	first := p.sorted()[0]
	i := slices.Index(p.l, first)
	p.l = slices.Delete(p.l, i, i+1)
	return first, true
}

func (p *plain) due(period int) []agenda.Item {
	isDue := func(x agenda.Item) bool { return x.Period <= period }
	due := slices.DeleteFunc(p.sorted(), func(x agenda.Item) bool { return !isDue(x) })
	p.l = slices.DeleteFunc(p.l, isDue)
	return due
}

func (p *plain) take(id int) int {
	before := len(p.l)
	p.l = slices.DeleteFunc(p.l, func(x agenda.Item) bool { return x.Id == id })
	return before - len(p.l)
}

// drawn draws items of which many are alike in part, and some in all.
func drawn(r *rand.Rand, n int) []agenda.Item {
	l := make([]agenda.Item, n)
	for i := range l {
		l[i] = item(r.Intn(9)-4, r.Intn(3)-1, r.Intn(4))
	}
	return l
}

// step does one thing to an agenda and to its model, and holds the answers against each other.
func step(t *testing.T, r *rand.Rand, a *agenda.Agenda, model *plain, size int) {
	t.Helper()
	switch r.Intn(6) {
	case 0, 1:
		l := drawn(r, r.Intn(size))
		checkCount(t, "Put", a.Put(l...), model.put(l...))
	case 2, 3:
		got, ok := a.Next()
		if want, wantOk := model.next(); got != want || ok != wantOk {
			t.Errorf("Next() = %v, %t, want %v, %t", got, ok, want, wantOk)
		}
	case 4:
		period := r.Intn(11) - 6
		checkList(t, "Due", a.Due(period), model.due(period)...)
	case 5:
		id := r.Intn(5)
		checkCount(t, "Take", a.Take(id), model.take(id))
	}
}

func TestAgainstAPlainList(t *testing.T) {
	r := rand.New(rand.NewSource(803))
	for _, size := range []int{4, 20, 700} {
		a, model := &agenda.Agenda{}, &plain{}
		for range 600 {
			step(t, r, a, model, size)
			checkAll(t, "then", a, model.sorted()...)
			if t.Failed() {
				t.FailNow()
			}
		}
	}
}
