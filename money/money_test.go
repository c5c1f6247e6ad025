package money_test

import (
	"math"
	"math/big"
	"math/rand"
	"testing"

	"variorum/api"
	"variorum/money"
)

const (
	most   = api.MaxMoney
	factor = 1_000_000_000
)

// repeated lists n times x.
func repeated(n, x int) []int {
	l := make([]int, n)
	for i := range l {
		l[i] = x
	}
	return l
}

// P101

func TestFits(t *testing.T) {
	rows := []struct {
		l    []int
		want bool
	}{
		{nil, true},
		{[]int{}, true},
		{[]int{0, 1, -1}, true},
		{[]int{most, -most}, true},
		{[]int{most + 1}, false},
		{[]int{-most - 1}, false},
		{[]int{0, 0, most + 1}, false},
		{[]int{-most - 1, 0, 0}, false},
		{[]int{math.MaxInt}, false},
		{[]int{math.MinInt}, false},
	}
	for _, r := range rows {
		if got := money.Fits(r.l...); got != r.want {
			t.Errorf("Fits(%v) = %v, want %v", r.l, got, r.want)
		}
	}
}

func checkAdd(t *testing.T, name string, want int, wantErr api.Errno, l ...int) {
	t.Helper()
	if got, err := money.Add(l...); got != want || err != wantErr {
		t.Errorf("Add %s = %d, %d, want %d, %d", name, got, err, want, wantErr)
	}
}

func TestAdd(t *testing.T) {
	checkAdd(t, "of nothing", 0, api.OK)
	checkAdd(t, "of one", -7, api.OK, -7)
	checkAdd(t, "of some", 6, api.OK, 1, 2, 3)
	checkAdd(t, "up to the most", most, api.OK, most-1, 1)
	checkAdd(t, "down to the most", -most, api.OK, 1-most, -1)
	checkAdd(t, "one above", 0, api.ErrMoney, most, 1)
	checkAdd(t, "one below", 0, api.ErrMoney, -most, -1)
	checkAdd(t, "above on the way", most, api.OK, most, most, -most)
	checkAdd(t, "below on the way", -most, api.OK, -most, -most, most)
	checkAdd(t, "of one that does not fit, though the sum does", 0, api.ErrMoney, most+1, -1)
	checkAdd(t, "of a negative one that does not fit", 0, api.ErrMoney, 5, -most-1, most)
	checkAdd(t, "of the greatest number", 0, api.ErrMoney, math.MaxInt)
	checkAdd(t, "of the least number", 0, api.ErrMoney, math.MinInt, 0)
	checkAdd(t, "of both ends", 0, api.ErrMoney, math.MaxInt, math.MinInt, 1)
}

// One word wraps round within 9,224 of the greatest amounts.
func TestAddBeyondAWord(t *testing.T) {
	up, down := repeated(30_000, most), repeated(30_000, -most)
	checkAdd(t, "far up", 0, api.ErrMoney, up...)
	checkAdd(t, "far down", 0, api.ErrMoney, down...)
	there := append(append([]int{5}, up...), down...)
	checkAdd(t, "far up and back", 5, api.OK, there...)
	back := append(append([]int{-5}, down...), up...)
	checkAdd(t, "far down and back", -5, api.OK, back...)
}

// The list's true sum is 2^64, which one word can't tell from 0.
func TestAddOfAWholeWord(t *testing.T) {
	l := repeated(18_446, most)
	l = append(l, 744_073_709_551_616)
	checkAdd(t, "of 2^64", 0, api.ErrMoney, l...)
	for i := range l {
		l[i] = -l[i]
	}
	checkAdd(t, "of -2^64", 0, api.ErrMoney, l...)
}

func TestAddAgainstBigNumbers(t *testing.T) {
	r := rand.New(rand.NewSource(101))
	limit := big.NewInt(most)
	for range 2_000 {
		l := make([]int, r.Intn(6))
		sum := new(big.Int)
		for i := range l {
			l[i] = r.Intn(2*most+1) - most
			sum.Add(sum, big.NewInt(int64(l[i])))
		}
		want, wantErr := int(sum.Int64()), api.OK
		if sum.CmpAbs(limit) > 0 {
			want, wantErr = 0, api.ErrMoney
		}
		if got, err := money.Add(l...); got != want || err != wantErr {
			t.Fatalf("Add(%v) = %d, %d, want %d, %d", l, got, err, want, wantErr)
		}
	}
}

// P102

func TestScale(t *testing.T) {
	rows := []struct {
		a, num, den int
		want        int
		err         api.Errno
	}{
		{5, 1, 2, 2, api.OK},
		{7, 1, 2, 4, api.OK},
		{-5, 1, 2, -2, api.OK},
		{-7, 1, 2, -4, api.OK},
		{1, 1, 2, 0, api.OK},
		{3, 1, 2, 2, api.OK},
		{1, 1, 3, 0, api.OK},
		{2, 1, 3, 1, api.OK},
		{-2, 1, 3, -1, api.OK},
		{26, 1, 10, 3, api.OK},
		{24, 1, 10, 2, api.OK},
		{0, factor, 1, 0, api.OK},
		{most, 0, factor, 0, api.OK},
		{most, factor, factor, most, api.OK},
		{-most, factor, factor, -most, api.OK},
		{most, 1, factor, 1_000_000, api.OK},
		{most / 2, 2, 1, most, api.OK},
		{most/2 + 1, 2, 1, 0, api.ErrMoney},
		{-most/2 - 1, 2, 1, 0, api.ErrMoney},
		{most, factor, 1, 0, api.ErrMoney},
		{-most, factor, 1, 0, api.ErrMoney},
		// above 2^64: the low word alone would fit
		{922_337_203_685_478, 20_000, 1, 0, api.ErrMoney},
		// 2^64 less a half: rounded up within a word it would be 0
		{145_295_143_558_111, 253_921, 2, 0, api.ErrMoney},
		// above the most by 1/3 and 4/9, by a half (the most is even), by 4/5
		{103_448_275_862_069, 29, 3, most, api.OK},
		{-473_684_210_526_316, 19, 9, -most, api.OK},
		{666_666_666_666_667, 3, 2, most, api.OK},
		{-666_666_666_666_667, 3, 2, -most, api.OK},
		{833_333_333_333_334, 6, 5, 0, api.ErrMoney},
		{-833_333_333_333_334, 6, 5, 0, api.ErrMoney},
		// below the most by 1/6
		{857_142_857_142_857, 7, 6, most, api.OK},
	}
	for _, r := range rows {
		if got, err := money.Scale(r.a, r.num, r.den); got != r.want || err != r.err {
			t.Errorf("Scale(%d, %d, %d) = %d, %d, want %d, %d", r.a, r.num, r.den, got, err, r.want, r.err)
		}
	}
}

func TestScaleOfWrongNumbers(t *testing.T) {
	rows := [][3]int{
		{most + 1, 1, 1},
		{-most - 1, 1, 1},
		{math.MaxInt, 0, 1},
		{math.MinInt, 0, 1},
		{1, -1, 1},
		{1, factor + 1, factor},
		{1, math.MinInt, 1},
		{1, 1, 0},
		{1, 1, -1},
		{1, 1, factor + 1},
		{0, 0, 0},
		// ErrArg is named ahead of ErrMoney
		{most, factor + 1, 1},
		{most, factor, 0},
	}
	for _, r := range rows {
		if got, err := money.Scale(r[0], r[1], r[2]); got != 0 || err != api.ErrArg {
			t.Errorf("Scale(%d, %d, %d) = %d, %d, want 0, ErrArg", r[0], r[1], r[2], got, err)
		}
	}
}

// scaleByBig reckons what P102 says, with numbers that can't be too great.
func scaleByBig(a, num, den int) (int, api.Errno) {
	product := new(big.Int).Mul(big.NewInt(int64(a)), big.NewInt(int64(num)))
	product.Abs(product)
	quotient, rest := new(big.Int).QuoRem(product, big.NewInt(int64(den)), new(big.Int))
	side := rest.Lsh(rest, 1).Cmp(big.NewInt(int64(den)))
	if side > 0 || side == 0 && quotient.Bit(0) == 1 {
		quotient.Add(quotient, big.NewInt(1))
	}
	if quotient.Cmp(big.NewInt(most)) > 0 {
		return 0, api.ErrMoney
	}
	if a < 0 {
		quotient.Neg(quotient)
	}
	return int(quotient.Int64()), api.OK
}

func checkScaleByBig(t *testing.T, a, num, den int) {
	t.Helper()
	want, wantErr := scaleByBig(a, num, den)
	if got, err := money.Scale(a, num, den); got != want || err != wantErr {
		t.Fatalf("Scale(%d, %d, %d) = %d, %d, want %d, %d", a, num, den, got, err, want, wantErr)
	}
}

func TestScaleAgainstBigNumbers(t *testing.T) {
	for a := -40; a <= 40; a++ {
		for num := range 9 {
			for den := 1; den < 13; den++ {
				checkScaleByBig(t, a, num, den)
			}
		}
	}
	r := rand.New(rand.NewSource(102))
	for range 20_000 {
		a := r.Intn(2*most+1) - most
		num, den := r.Intn(factor+1), 1+r.Intn(factor)
		checkScaleByBig(t, a, num, den)
		checkScaleByBig(t, a, num, num+1-num%2)
		checkScaleByBig(t, a, den/2, den)
		checkScaleByBig(t, a>>40, num, den)
	}
}
