package term_test

import (
	"math"
	"slices"
	"testing"

	"variorum/api"
	"variorum/term"
)

// far lists numbers at the edges of what may be, and far beyond them.
func far() []int {
	return []int{math.MinInt, math.MinInt + 1, math.MinInt + 2000, -1 << 62, -1 << 32, -1200, -1199, -13, -12, -1,
		0, 1, 11, 12, 13, 322, 599, 1187, 1188, 1198, 1199, 1200, 1201, 2000, 1 << 32, 1 << 62, math.MaxInt - 1200, math.MaxInt - 1, math.MaxInt}
}

// P201

func TestValid(t *testing.T) {
	rows := []struct {
		l    []int
		want bool
	}{
		{nil, true},
		{[]int{}, true},
		{[]int{0}, true},
		{[]int{api.MaxPeriod}, true},
		{[]int{0, 322, api.MaxPeriod}, true},
		{[]int{-1}, false},
		{[]int{api.MaxPeriod + 1}, false},
		{[]int{-1, 5, 5}, false},
		{[]int{5, 1200, 5}, false},
		{[]int{5, 5, -1}, false},
		{[]int{math.MinInt}, false},
		{[]int{math.MaxInt}, false},
	}
	for _, r := range rows {
		if got := term.Valid(r.l...); got != r.want {
			t.Errorf("Valid(%v) = %v, want %v", r.l, got, r.want)
		}
	}
}

func TestOf(t *testing.T) {
	rows := []struct {
		year, month, want int
		err               api.Errno
	}{
		{2026, 11, 322, api.OK},
		{2000, 1, 0, api.OK},
		{2000, 12, 11, api.OK},
		{2001, 1, 12, api.OK},
		{2099, 12, 1199, api.OK},
		{2099, 1, 1188, api.OK},
		{1999, 12, 0, api.ErrArg},
		{2100, 1, 0, api.ErrArg},
		{2026, 0, 0, api.ErrArg},
		{2026, 13, 0, api.ErrArg},
		{2026, -1, 0, api.ErrArg},
		{1999, 13, 0, api.ErrArg}, // would be month 0, if a year had a 13th
		{2001, 0, 0, api.ErrArg},  // would be month 11
		{2100, 0, 0, api.ErrArg},  // would be month 1199
		{0, 1, 0, api.ErrArg},
		{26, 11, 0, api.ErrArg},
		{2000, math.MaxInt, 0, api.ErrArg},
		{2000, math.MinInt, 0, api.ErrArg},
		{math.MaxInt, 1, 0, api.ErrArg},
		{math.MinInt, 12, 0, api.ErrArg},
		{2000 + 1<<62, 1, 0, api.ErrArg}, // 12 times it wraps round to 0
		{2000 - 1<<62, 1, 0, api.ErrArg},
		{2026 + 1<<62, 11, 0, api.ErrArg},
	}
	for _, r := range rows {
		if got, err := term.Of(r.year, r.month); got != r.want || err != r.err {
			t.Errorf("Of(%d, %d) = %d, %d, want %d, %d", r.year, r.month, got, err, r.want, r.err)
		}
	}
}

func TestPartsOfEachMonth(t *testing.T) {
	p := 0
	for year := 2000; year < 2100; year++ {
		for month := 1; month <= 12; month++ {
			if got, err := term.Of(year, month); got != p || err != api.OK {
				t.Errorf("Of(%d, %d) = %d, %d, want %d", year, month, got, err, p)
			}
			if term.Year(p) != year || term.Month(p) != month {
				t.Errorf("month %d is %d of %d, want %d of %d", p, term.Month(p), term.Year(p), month, year)
			}
			p++
		}
	}
}

func TestPartsOfWrongMonths(t *testing.T) {
	for _, p := range far() {
		if p >= 0 && p <= api.MaxPeriod {
			continue
		}
		if term.Year(p) != 0 || term.Month(p) != 0 {
			t.Errorf("month %d has year %d and month %d, want 0 and 0", p, term.Year(p), term.Month(p))
		}
	}
}

func TestShift(t *testing.T) {
	rows := []struct {
		p, n, want int
		err        api.Errno
	}{
		{322, 2, 324, api.OK},
		{322, -2, 320, api.OK},
		{322, 0, 322, api.OK},
		{0, 0, 0, api.OK},
		{1199, 0, 1199, api.OK},
		{0, 1199, 1199, api.OK},
		{1199, -1199, 0, api.OK},
		{322, -322, 0, api.OK},
		{322, 877, 1199, api.OK},
		{0, -1, 0, api.ErrArg},
		{1199, 1, 0, api.ErrArg},
		{0, 1200, 0, api.ErrArg},
		{1199, -1200, 0, api.ErrArg},
		{322, -323, 0, api.ErrArg},
		{322, 878, 0, api.ErrArg},
		{-1, 1, 0, api.ErrArg},
		{-1, 0, 0, api.ErrArg},
		{1200, -1, 0, api.ErrArg},
		{1200, 0, 0, api.ErrArg},
		{math.MinInt, math.MaxInt, 0, api.ErrArg},
		{math.MinInt, math.MinInt, 0, api.ErrArg}, // comes to 0 where it wraps round
		{math.MaxInt, -math.MaxInt, 0, api.ErrArg},
		{5, math.MaxInt, 0, api.ErrArg},
		{5, math.MinInt, 0, api.ErrArg},
	}
	for _, r := range rows {
		if got, err := term.Shift(r.p, r.n); got != r.want || err != r.err {
			t.Errorf("Shift(%d, %d) = %d, %d, want %d, %d", r.p, r.n, got, err, r.want, r.err)
		}
	}
}

// wantShift tells Shift's answer by steps of one month.
func wantShift(p, n int) (int, api.Errno) {
	if p < 0 || p > 1199 || n < -1199 || n > 1199 {
		return 0, api.ErrArg
	}
	for ; n > 0; n-- {
		p++
	}
	for ; n < 0; n++ {
		p--
	}
	if p < 0 || p > 1199 {
		return 0, api.ErrArg
	}
	return p, api.OK
}

func TestShiftByAllEdges(t *testing.T) {
	for _, p := range far() {
		for _, n := range far() {
			want, wantErr := wantShift(p, n)
			if got, err := term.Shift(p, n); got != want || err != wantErr {
				t.Errorf("Shift(%d, %d) = %d, %d, want %d, %d", p, n, got, err, want, wantErr)
			}
		}
	}
}

func TestSpan(t *testing.T) {
	rows := []struct {
		from, to int
		want     []int
	}{
		{3, 5, []int{3, 4, 5}},
		{0, 1, []int{0, 1}},
		{11, 12, []int{11, 12}},
		{0, 0, []int{0}},
		{1199, 1199, []int{1199}},
		{1198, 1199, []int{1198, 1199}},
		{5, 3, nil},
		{1199, 0, nil},
		{-1, 2, nil},
		{-1, -1, nil},
		{1198, 1200, nil},
		{1200, 1200, nil},
		{1200, 5, nil},
		{5, -1, nil},
		{math.MinInt, math.MaxInt, nil},
		{math.MaxInt, math.MinInt, nil},
	}
	for _, r := range rows {
		if got := term.Span(r.from, r.to); !slices.Equal(got, r.want) {
			t.Errorf("Span(%d, %d) = %v, want %v", r.from, r.to, got, r.want)
		}
	}
	all := term.Span(0, api.MaxPeriod)
	if len(all) != api.MaxPeriod+1 {
		t.Fatalf("the whole span has %d months", len(all))
	}
	for i, p := range all {
		if p != i {
			t.Errorf("month %d of the whole span is %d", i, p)
		}
	}
}

func TestSpanIsNewEachTime(t *testing.T) {
	first := term.Span(3, 5)
	clear(first[:cap(first)])
	if got := term.Span(3, 5); !slices.Equal(got, []int{3, 4, 5}) {
		t.Errorf("a second span is %v", got)
	}
}

func TestValidLeavesItsList(t *testing.T) {
	l := []int{3, 1200, -1}
	term.Valid(l...)
	if !slices.Equal(l, []int{3, 1200, -1}) {
		t.Errorf("the list became %v", l)
	}
}
