package book_test

import (
	"math"
	"math/rand"
	"slices"
	"strings"
	"testing"

	"variorum/api"
	"variorum/book"
)

// journal makes a journal of entity 1 with lines of its own.
func journal(id int, ref string) api.Journal { return of(1, id, ref) }

// of makes a journal of an entity.
func of(entity, id int, ref string) api.Journal {
	return api.Journal{Id: id, Entity: entity, Period: 322, Ref: ref, Lines: []api.Line{{Account: 100, Amount: 5}, {Account: 200, Amount: -5}}}
}

// void makes a journal void.
func void(j api.Journal) api.Journal {
	j.Void = true
	return j
}

// with makes a journal that was changed.
func with(j api.Journal, change func(j *api.Journal)) api.Journal {
	change(&j)
	return j
}

// alike holds two journals against each other field by field.
func alike(a, b api.Journal) bool {
	return a.Id == b.Id && a.Entity == b.Entity && a.Period == b.Period && a.Ref == b.Ref && a.Void == b.Void && slices.Equal(a.Lines, b.Lines)
}

// made makes a book of journals that may all be in it.
func made(t *testing.T, l ...api.Journal) *book.Book {
	t.Helper()
	b, err := book.Of(l...)
	if b == nil || err != api.OK {
		t.Fatalf("Of(%v) = %v, %d", l, b, err)
	}
	return b
}

func checkErr(t *testing.T, what string, got, want api.Errno) {
	t.Helper()
	if got != want {
		t.Errorf("%s: error %d, want %d", what, got, want)
	}
}

// checkAll asks a book for all that it has, in each way.
func checkAll(t *testing.T, what string, b *book.Book, want ...api.Journal) {
	t.Helper()
	if got := b.All(); !slices.EqualFunc(got, want, alike) {
		t.Errorf("%s: All() = %v, want %v", what, got, want)
	}
	if got := b.Len(); got != len(want) {
		t.Errorf("%s: Len() = %d, want %d", what, got, len(want))
	}
	for _, j := range want {
		if got, ok := b.Get(j.Id); !ok || !alike(got, j) {
			t.Errorf("%s: Get(%d) = %v, %t, want %v", what, j.Id, got, ok, j)
		}
	}
}

func checkRef(t *testing.T, b *book.Book, ref string, want int) {
	t.Helper()
	if got := b.Ref(ref); got != want {
		t.Errorf("Ref(%q) = %d, want %d", ref, got, want)
	}
}

// wrong has journals that entry.Check refuses, each with its error.
func wrong() []struct {
	j    api.Journal
	want api.Errno
} {
	return []struct {
		j    api.Journal
		want api.Errno
	}{
		{api.Journal{}, api.ErrArg},
		{journal(0, ""), api.ErrArg},
		{journal(-1, ""), api.ErrArg},
		{journal(api.MaxId+1, ""), api.ErrArg},
		{of(0, 1, ""), api.ErrArg},
		{of(api.MaxEntity+1, 1, ""), api.ErrArg},
		{journal(1, "a"), api.ErrArg},
		{journal(1, "ABCDEFGHI"), api.ErrArg},
		{with(journal(1, "A"), func(j *api.Journal) { j.Period = -1 }), api.ErrArg},
		{with(journal(1, "A"), func(j *api.Journal) { j.Lines = nil }), api.ErrArg},
		{with(journal(1, "A"), func(j *api.Journal) { j.Lines[0].Partner = 1 }), api.ErrArg},
		{with(journal(1, "A"), func(j *api.Journal) { j.Lines[0].Amount = api.MaxMoney + 1 }), api.ErrMoney},
		{with(journal(1, "A"), func(j *api.Journal) { j.Lines[0].Amount = 4 }), api.ErrBalance},
		{void(with(journal(1, "A"), func(j *api.Journal) { j.Lines[0].Amount = 4 })), api.ErrBalance},
	}
}

// P601

func TestZeroIsEmptyAndReady(t *testing.T) {
	var b book.Book
	checkAll(t, "a zero book", &b)
	checkErr(t, "Post", b.Post(journal(1, "A")), api.OK)
	checkAll(t, "behind a Post", &b, journal(1, "A"))
}

func TestExampleOfTheChapter(t *testing.T) {
	var b book.Book
	checkErr(t, "Post(1, A)", b.Post(journal(1, "A")), api.OK)
	checkErr(t, "Post(2, A)", b.Post(journal(2, "A")), api.ErrRef)
	checkErr(t, "Void(1)", b.Void(1), api.OK)
	checkErr(t, "Post(2, A)", b.Post(journal(2, "A")), api.OK)
	checkAll(t, "behind it", &b, void(journal(1, "A")), journal(2, "A"))
}

func TestWrongJournals(t *testing.T) {
	for i, r := range wrong() {
		// Check's error counts ahead of all others: number 1 is there, is void, and "A" is taken.
		b := made(t, void(journal(1, "")), journal(2, "A"))
		checkErr(t, "Post", b.Post(r.j), r.want)
		checkErr(t, "Amend", b.Amend(r.j), r.want)
		checkAll(t, "behind wrong journals", b, void(journal(1, "")), journal(2, "A"))
		if got, err := book.Of(journal(2, "A"), r.j, journal(2, "A")); got != nil || err != r.want {
			t.Errorf("row %d: Of = %v, %d, want nil, %d", i, got, err, r.want)
		}
	}
}

func TestPost(t *testing.T) {
	stand := []api.Journal{journal(10, "A"), void(journal(20, "B")), journal(30, ""), of(2, 40, "C")}
	rows := []struct {
		name string
		j    api.Journal
		want api.Errno
	}{
		{"a reference that nobody has", journal(15, "Z"), api.OK},
		{"a reference within another one", journal(15, "AA"), api.OK},
		{"no reference, though there is one without", journal(15, ""), api.OK},
		{"one that is there", journal(15, "A"), api.ErrRef},
		{"one that is there, ahead of it", journal(5, "A"), api.ErrRef},
		{"a void one with a reference that is there", void(journal(15, "A")), api.OK},
		{"the reference of a void one", journal(15, "B"), api.OK},
		{"a void one with the reference of a void one", void(journal(15, "B")), api.OK},
		{"the reference of another entity", journal(15, "C"), api.OK},
		{"another entity's with that reference", of(2, 15, "A"), api.OK},
		{"another entity's with its own reference", of(2, 15, "C"), api.ErrRef},
		{"another period's with a reference that is there", with(journal(15, "A"), func(j *api.Journal) { j.Period = 7 }), api.ErrRef},
		{"a number that is there", journal(10, "Z"), api.ErrDup},
		{"a number and a reference that are there", journal(10, "A"), api.ErrDup},
		{"a number that is there, with another one's reference", journal(30, "A"), api.ErrDup},
		{"the number of a void one", journal(20, ""), api.ErrDup},
		{"a void one of a number that is there", void(journal(10, "A")), api.ErrDup},
		{"the number of another entity's", journal(40, ""), api.ErrDup},
		{"the least number", journal(1, ""), api.OK},
		{"the greatest number", journal(api.MaxId, ""), api.OK},
	}
	for _, r := range rows {
		t.Run(r.name, func(t *testing.T) {
			b := made(t, stand...)
			checkErr(t, "Post", b.Post(r.j), r.want)
			want := slices.Clone(stand)
			if r.want == api.OK {
				want = append(want, r.j)
				slices.SortFunc(want, func(a, b api.Journal) int { return a.Id - b.Id })
			}
			checkAll(t, "behind it", b, want...)
		})
	}
}

func TestFull(t *testing.T) {
	var b book.Book
	for i := range api.MaxBook {
		checkErr(t, "Post", b.Post(journal(2*i+2, "")), api.OK)
	}
	full := b.All()
	checkErr(t, "one too many", b.Post(journal(3, "")), api.ErrFull)
	checkErr(t, "a void one too many", b.Post(void(journal(3, ""))), api.ErrFull)
	checkErr(t, "ErrDup counts first", b.Post(journal(2, "")), api.ErrDup)
	checkErr(t, "Check's error counts first", b.Post(journal(0, "")), api.ErrArg)
	checkAll(t, "a full book", &b, full...)
	checkErr(t, "a full book may be amended", b.Amend(journal(4, "Q")), api.OK)
	checkErr(t, "ErrRef counts first", b.Post(journal(3, "Q")), api.ErrRef)
	checkErr(t, "void ones count too", b.Void(2), api.OK)
	checkErr(t, "void ones count too", b.Post(journal(3, "")), api.ErrFull)
	if !b.Drop(2) || b.Len() != api.MaxBook-1 {
		t.Errorf("behind Drop(2): Len() = %d", b.Len())
	}
	checkErr(t, "there is room again", b.Post(journal(3, "")), api.OK)
	checkErr(t, "and none again", b.Post(journal(5, "")), api.ErrFull)
}

func TestAmend(t *testing.T) {
	stand := []api.Journal{journal(10, "A"), void(journal(20, "B")), journal(30, "D"), of(2, 40, "C"), journal(50, "")}
	rows := []struct {
		name string
		j    api.Journal
		want api.Errno
	}{
		{"as it was", journal(10, "A"), api.OK},
		{"other lines", with(journal(10, "A"), func(j *api.Journal) { j.Lines = []api.Line{{Account: 7, Amount: -1}, {Account: 8, Amount: 1}} }), api.OK},
		{"another period", with(journal(10, "A"), func(j *api.Journal) { j.Period = 0 }), api.OK},
		{"another reference", journal(10, "Z"), api.OK},
		{"no reference", journal(10, ""), api.OK},
		{"a reference of its own now", journal(50, "Z"), api.OK},
		{"a reference that is there", journal(10, "D"), api.ErrRef},
		{"a reference that is there, behind it", journal(30, "A"), api.ErrRef},
		{"void, with a reference that is there", void(journal(10, "D")), api.OK},
		{"void", void(journal(10, "A")), api.OK},
		{"the reference of a void one", journal(10, "B"), api.OK},
		{"the reference of another entity", journal(10, "C"), api.OK},
		{"another entity, with its reference", of(2, 10, "A"), api.OK},
		{"another entity, with a reference that is there", of(2, 10, "C"), api.ErrRef},
		{"another entity, back", of(1, 40, "A"), api.ErrRef},
		{"a void one", journal(20, "B"), api.ErrState},
		{"a void one that stays void", void(journal(20, "B")), api.ErrState},
		{"a void one, with a reference that is there", journal(20, "A"), api.ErrState},
		{"none", journal(15, "Z"), api.ErrNone},
		{"none, with a reference that is there", journal(15, "A"), api.ErrNone},
		{"none, behind all", journal(api.MaxId, ""), api.ErrNone},
	}
	for _, r := range rows {
		t.Run(r.name, func(t *testing.T) {
			b := made(t, stand...)
			checkErr(t, "Amend", b.Amend(r.j), r.want)
			want := slices.Clone(stand)
			for i := range want {
				if r.want == api.OK && want[i].Id == r.j.Id {
					want[i] = r.j
				}
			}
			checkAll(t, "behind it", b, want...)
		})
	}
}

func TestVoid(t *testing.T) {
	b := made(t, journal(10, "A"), void(journal(20, "B")), of(2, 30, "A"))
	for _, id := range []int{math.MinInt, -1, 0, 1, 11, 31, api.MaxId + 1, math.MaxInt} {
		checkErr(t, "none", b.Void(id), api.ErrNone)
	}
	checkErr(t, "a void one", b.Void(20), api.ErrState)
	checkErr(t, "a live one", b.Void(10), api.OK)
	checkErr(t, "it is void then", b.Void(10), api.ErrState)
	checkAll(t, "its other parts stay", b, void(journal(10, "A")), void(journal(20, "B")), of(2, 30, "A"))
	checkErr(t, "its reference is free", b.Post(journal(11, "A")), api.OK)
}

func TestDrop(t *testing.T) {
	b := made(t, journal(10, "A"), void(journal(20, "B")), journal(30, "C"))
	for _, id := range []int{math.MinInt, -1, 0, 1, 11, 31, math.MaxInt} {
		if b.Drop(id) {
			t.Errorf("Drop(%d) of none", id)
		}
	}
	if !b.Drop(10) || b.Drop(10) {
		t.Error("a live one goes once")
	}
	checkAll(t, "without the first", b, void(journal(20, "B")), journal(30, "C"))
	if !b.Drop(20) || b.Drop(20) {
		t.Error("a void one goes once")
	}
	checkErr(t, "its number is free", b.Post(journal(10, "A")), api.OK)
	checkAll(t, "posted again", b, journal(10, "A"), journal(30, "C"))
	if !b.Drop(30) || !b.Drop(10) {
		t.Error("the last ones go")
	}
	checkAll(t, "empty again", b)
	checkErr(t, "Void of none", b.Void(10), api.ErrNone)
	checkErr(t, "Amend of none", b.Amend(journal(10, "A")), api.ErrNone)
}

func TestOf(t *testing.T) {
	checkAll(t, "of nothing", made(t))
	checkAll(t, "in any order", made(t, journal(3, "C"), journal(1, "A"), void(journal(2, "A"))), journal(1, "A"), void(journal(2, "A")), journal(3, "C"))
	rows := []struct {
		name string
		l    []api.Journal
		want api.Errno
	}{
		{"one twice", []api.Journal{journal(1, ""), journal(1, "")}, api.ErrDup},
		{"a reference twice", []api.Journal{journal(1, "A"), journal(2, "A")}, api.ErrRef},
		{"the first error: ErrRef", []api.Journal{journal(1, "A"), journal(2, "A"), journal(1, "A"), journal(0, "")}, api.ErrRef},
		{"the first error: ErrDup", []api.Journal{journal(1, "A"), journal(1, "A"), journal(2, "A")}, api.ErrDup},
		{"the first error: ErrArg", []api.Journal{journal(0, "A"), journal(1, "A"), journal(1, "A")}, api.ErrArg},
		{"one too many", append(many(api.MaxBook), journal(api.MaxBook+1, "")), api.ErrFull},
	}
	for _, r := range rows {
		if b, err := book.Of(r.l...); b != nil || err != r.want {
			t.Errorf("%s: %v, %d, want nil, %d", r.name, b, err, r.want)
		}
	}
	checkAll(t, "as many as may be", made(t, many(api.MaxBook)...), many(api.MaxBook)...)
}

// many makes n journals without references.
func many(n int) []api.Journal {
	var l []api.Journal
	for i := range n {
		l = append(l, journal(i+1, ""))
	}
	return l
}

// P602

func TestGet(t *testing.T) {
	b := made(t, journal(10, "A"), void(journal(20, "B")))
	for _, id := range []int{math.MinInt, -10, 0, 1, 11, 21, 1<<32 + 10, math.MaxInt} {
		if j, ok := b.Get(id); ok || !alike(j, api.Journal{}) || j.Lines != nil {
			t.Errorf("Get(%d) = %v, %t", id, j, ok)
		}
	}
}

func TestRef(t *testing.T) {
	b := made(t, journal(40, "A"), of(2, 30, "A"), of(3, 50, "A"), void(journal(20, "A")), void(journal(10, "B")), journal(5, ""), journal(60, "ABCDEFG1"))
	checkRef(t, b, "A", 30)
	checkRef(t, b, "B", 0)
	checkRef(t, b, "C", 0)
	checkRef(t, b, "", 0)
	checkRef(t, b, "a", 0)
	checkRef(t, b, "AA", 0)
	checkRef(t, b, "ABCDEFG1", 60)
	checkRef(t, b, "ABCDEFG12", 0)
	checkRef(t, b, strings.Repeat("A", 1000), 0)
	checkErr(t, "Void", b.Void(30), api.OK)
	checkRef(t, b, "A", 40)
	checkErr(t, "Amend", b.Amend(journal(40, "B")), api.OK)
	checkRef(t, b, "A", 50)
	checkRef(t, b, "B", 40)
	if !b.Drop(50) {
		t.Error("Drop(50) of one that is there")
	}
	checkRef(t, b, "A", 0)
}

func TestSame(t *testing.T) {
	stand := []api.Journal{journal(10, "A"), journal(20, "B")}
	rows := []struct {
		name string
		l    []api.Journal
		want bool
	}{
		{"alike", []api.Journal{journal(10, "A"), journal(20, "B")}, true},
		{"posted in another order", []api.Journal{journal(20, "B"), journal(10, "A")}, true},
		{"one less", []api.Journal{journal(10, "A")}, false},
		{"one more", []api.Journal{journal(10, "A"), journal(20, "B"), journal(30, "")}, false},
		{"none", nil, false},
		{"another number", []api.Journal{journal(10, "A"), journal(21, "B")}, false},
		{"another reference", []api.Journal{journal(10, "A"), journal(20, "C")}, false},
		{"another entity", []api.Journal{of(2, 10, "A"), journal(20, "B")}, false},
		{"one void", []api.Journal{journal(10, "A"), void(journal(20, "B"))}, false},
		{"another period", []api.Journal{with(journal(10, "A"), func(j *api.Journal) { j.Period = 0 }), journal(20, "B")}, false},
		{"lines in another order", []api.Journal{with(journal(10, "A"), func(j *api.Journal) { slices.Reverse(j.Lines) }), journal(20, "B")}, false},
		{"another amount", []api.Journal{with(journal(10, "A"), func(j *api.Journal) { j.Lines[0].Amount, j.Lines[1].Amount = 6, -6 }), journal(20, "B")}, false},
	}
	for _, r := range rows {
		a, b := made(t, stand...), made(t, r.l...)
		if a.Same(b) != r.want || b.Same(a) != r.want {
			t.Errorf("%s: Same = %t, %t, want %t", r.name, a.Same(b), b.Same(a), r.want)
		}
		if !b.Same(b) {
			t.Errorf("%s: it is not the Same as itself", r.name)
		}
	}
}

func TestNil(t *testing.T) {
	var b *book.Book
	for _, j := range []api.Journal{journal(1, "A"), journal(0, ""), {}} {
		checkErr(t, "Post", b.Post(j), api.ErrArg)
		checkErr(t, "Amend", b.Amend(j), api.ErrArg)
	}
	// ErrArg counts ahead of Check's other errors, for there is no book that could be asked.
	unbalanced := with(journal(1, ""), func(j *api.Journal) { j.Lines[0].Amount = 4 })
	checkErr(t, "Post", b.Post(unbalanced), api.ErrArg)
	checkErr(t, "Amend", b.Amend(unbalanced), api.ErrArg)
	checkErr(t, "Void", b.Void(1), api.ErrArg)
	if j, ok := b.Get(1); ok || !alike(j, api.Journal{}) {
		t.Errorf("Get(1) = %v, %t", j, ok)
	}
	if b.Drop(1) || b.Ref("A") != 0 || b.Ref("") != 0 || b.All() != nil || b.Len() != 0 || b.Copy() != nil {
		t.Error("a nil book answers something")
	}
}

func TestSameOfNilAndEmpty(t *testing.T) {
	var none *book.Book
	emptied := made(t, journal(1, ""))
	emptied.Drop(1)
	for i, a := range []*book.Book{none, {}, made(t), emptied} {
		for k, b := range []*book.Book{none, {}, made(t), emptied} {
			if !a.Same(b) {
				t.Errorf("Same of empty ones %d and %d is false", i, k)
			}
		}
		if some := made(t, journal(1, "")); a.Same(some) || some.Same(a) {
			t.Errorf("the empty one %d is the Same as one that is not", i)
		}
	}
}

func TestSharesNothing(t *testing.T) {
	j := journal(10, "A")
	amended := journal(20, "B")
	handed := []api.Journal{j, journal(20, "")}
	b := made(t, handed...)
	checkErr(t, "Amend", b.Amend(amended), api.OK)
	spoil := func(l ...api.Journal) {
		for i := range l {
			l[i].Lines[0].Amount = 99
			l[i].Ref = "SPOILT"
		}
	}
	got, _ := b.Get(10)
	spoil(j, amended, got)
	spoil(handed...)
	spoil(b.All()...)
	checkAll(t, "behind what was spoilt", b, journal(10, "A"), journal(20, "B"))
	all, got := b.All(), func() api.Journal { j, _ := b.Get(10); return j }()
	b.Void(10)
	b.Drop(20)
	if !slices.EqualFunc(all, []api.Journal{journal(10, "A"), journal(20, "B")}, alike) || !alike(got, journal(10, "A")) {
		t.Errorf("answers of earlier turned: %v, %v", all, got)
	}
}

func TestNothingHandedInIsWritten(t *testing.T) {
	handed := []api.Journal{journal(20, "B"), journal(10, "A")}
	b := made(t, handed...)
	b.Void(10)
	b.Drop(20)
	if !slices.EqualFunc(handed, []api.Journal{journal(20, "B"), journal(10, "A")}, alike) {
		t.Errorf("what was handed in is %v", handed)
	}
}

func TestCopyGoesOnByItself(t *testing.T) {
	b := made(t, journal(10, "A"), journal(20, "B"), journal(30, "C"))
	c := b.Copy()
	if !b.Same(c) {
		t.Error("a copy is not the Same")
	}
	checkErr(t, "Void", c.Void(10), api.OK)
	checkErr(t, "Amend", c.Amend(journal(20, "Z")), api.OK)
	checkErr(t, "Post", c.Post(journal(5, "")), api.OK)
	checkErr(t, "Post", b.Post(journal(40, "")), api.OK)
	c.Drop(30)
	checkAll(t, "the book", b, journal(10, "A"), journal(20, "B"), journal(30, "C"), journal(40, ""))
	checkAll(t, "its copy", c, journal(5, ""), void(journal(10, "A")), journal(20, "Z"))
	var zero book.Book
	if c := zero.Copy(); c == nil || c.Len() != 0 || c.Post(journal(1, "")) != api.OK || zero.Len() != 0 {
		t.Error("a copy of a zero book is not ready, or not its own")
	}
}

// plain is a book as a plain list, without any order.
type plain []api.Journal

func (p plain) find(id int) int {
	return slices.IndexFunc(p, func(j api.Journal) bool { return j.Id == id })
}

func (p plain) clash(j api.Journal) bool {
	for _, k := range p {
		if !j.Void && j.Ref != "" && !k.Void && k.Ref == j.Ref && k.Entity == j.Entity && k.Id != j.Id {
			return true
		}
	}
	return false
}

func (p *plain) post(j api.Journal) api.Errno {
	switch {
	case p.find(j.Id) >= 0:
		return api.ErrDup
	case p.clash(j):
		return api.ErrRef
	case len(*p) == api.MaxBook:
		return api.ErrFull
	}
	*p = append(*p, j)
	return api.OK
}

func (p plain) amend(j api.Journal) api.Errno {
	i := p.find(j.Id)
	switch {
	case i < 0:
		return api.ErrNone
	case p[i].Void:
		return api.ErrState
	case p.clash(j):
		return api.ErrRef
	}
	p[i] = j
	return api.OK
}

func (p plain) void(id int) api.Errno {
	i := p.find(id)
	switch {
	case i < 0:
		return api.ErrNone
	case p[i].Void:
		return api.ErrState
	}
	p[i].Void = true
	return api.OK
}

func (p *plain) drop(id int) bool {
	i := p.find(id)
	if i >= 0 {
		*p = slices.Delete(*p, i, i+1)
	}
	return i >= 0
}

// ref tells the least number that has a reference.
func (p plain) ref(ref string) int {
	least := 0
	for _, j := range p {
		if ref != "" && !j.Void && j.Ref == ref && (least == 0 || j.Id < least) {
			least = j.Id
		}
	}
	return least
}

// sorted tells the list by number.
func (p plain) sorted() []api.Journal {
	return slices.SortedFunc(slices.Values(p), func(a, b api.Journal) int { return a.Id - b.Id })
}

func TestAgainstPlainList(t *testing.T) {
	r := rand.New(rand.NewSource(6))
	refs := []string{"", "", "A", "B", "C", "A1"}
	for round := range 60 {
		var b book.Book
		var p plain
		span := 10 + round*5 // the later rounds fill the book
		for step := range 700 {
			id := 1 + r.Intn(span)
			j := of(1+r.Intn(2), id, refs[r.Intn(len(refs))])
			j.Void = r.Intn(5) == 0
			j.Lines[0].Amount, j.Lines[1].Amount = step+1, -step-1
			switch r.Intn(9) {
			case 0, 1:
				checkErr(t, "Amend", b.Amend(j), p.amend(j))
			case 2:
				checkErr(t, "Void", b.Void(id), p.void(id))
			case 3:
				if got, want := b.Drop(id), p.drop(id); got != want {
					t.Errorf("Drop(%d) = %t, want %t", id, got, want)
				}
			default:
				checkErr(t, "Post", b.Post(j), p.post(j))
			}
			checkRef(t, &b, "A", p.ref("A"))
			checkRef(t, &b, "", 0)
		}
		checkAll(t, "behind a round", &b, p.sorted()...)
		if t.Failed() {
			t.Fatalf("round %d", round)
		}
	}
}
