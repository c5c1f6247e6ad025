package money_test

import (
	"math"
	"math/big"
	"math/rand"
	"slices"
	"testing"

	"variorum/api"
	"variorum/money"
)

// P103

func TestSplit(t *testing.T) {
	rows := []struct {
		a       int
		weights []int
		want    []int
	}{
		{-10, []int{1, 1, 1}, []int{-4, -3, -3}},
		{10, []int{1, 1, 1}, []int{4, 3, 3}},
		{9, []int{7}, []int{9}},
		{0, []int{1, 2}, []int{0, 0}},
		{5, []int{0, 1, 0}, []int{0, 5, 0}},
		{10, []int{1, 2}, []int{3, 7}},
		{7, []int{1, 1, 1, 1}, []int{2, 2, 2, 1}},
		{1, []int{1, 2, 3}, []int{0, 0, 1}},
		{-1, []int{1, 1}, []int{-1, 0}},
		{100, []int{3, 3, 1}, []int{43, 43, 14}},
		// cut by 0, 3, 10, 10 and 7 of fifteen, and two are left
		{11, []int{0, 3, 5, 5, 2}, []int{0, 2, 4, 4, 1}},
		// cut by 4, 0, 4 and 2 of five: a weight of 0 is never cut
		{2, []int{2, 0, 2, 1}, []int{1, 0, 1, 0}},
		{most, []int{1_000_000, 1_000_000, 1_000_000}, []int{333_333_333_333_334, 333_333_333_333_333, 333_333_333_333_333}},
		{-most, []int{1_000_000, 0}, []int{-most, 0}},
		{most, []int{999_999, 1}, []int{999_999_000_000_000, 1_000_000_000}},
	}
	for _, r := range rows {
		if got, err := money.Split(r.a, r.weights...); !slices.Equal(got, r.want) || err != api.OK {
			t.Errorf("Split(%d, %v) = %v, %d, want %v, OK", r.a, r.weights, got, err, r.want)
		}
	}
}

func TestSplitByTwentyWeights(t *testing.T) {
	want := append(repeated(13, -1), repeated(7, 0)...)
	if got, err := money.Split(-13, repeated(20, 1_000_000)...); !slices.Equal(got, want) || err != api.OK {
		t.Errorf("Split(-13, twenty) = %v, %d, want %v, OK", got, err, want)
	}
}

func TestSplitOfWrongNumbers(t *testing.T) {
	rows := []struct {
		a       int
		weights []int
	}{
		{5, nil},
		{5, []int{}},
		{5, repeated(21, 1)},
		{5, []int{3, -1}},
		{5, []int{1_000_001}},
		{5, []int{1, math.MaxInt, math.MaxInt}},
		{5, []int{math.MinInt, 1}},
		{5, []int{0}},
		{5, repeated(20, 0)},
		{0, []int{0, 0}},
		{most + 1, []int{1}},
		{-most - 1, []int{1}},
		{math.MinInt, []int{1, 1}},
	}
	for _, r := range rows {
		if got, err := money.Split(r.a, r.weights...); len(got) != 0 || err != api.ErrArg {
			t.Errorf("Split(%d, %v) = %v, %d, want none, ErrArg", r.a, r.weights, got, err)
		}
	}
}

// What is answered is new memory, and what is handed in stays (the rules for all packages).
func TestSplitSharesNothing(t *testing.T) {
	weights := []int{3, 1, 2}
	first, _ := money.Split(7, weights...)
	if !slices.Equal(weights, []int{3, 1, 2}) {
		t.Fatalf("the weights became %v", weights)
	}
	want := slices.Clone(first)
	weights[0] = 99
	second, _ := money.Split(7, 3, 1, 2)
	second[0] = 1234
	if !slices.Equal(first, want) {
		t.Errorf("the first answer became %v, not %v", first, want)
	}
}

// splitByBig reckons what P103 says, going round for the greatest cut each time.
func splitByBig(a int, weights []int) []int {
	total := new(big.Int)
	for _, w := range weights {
		total.Add(total, big.NewInt(int64(w)))
	}
	whole := new(big.Int).Abs(big.NewInt(int64(a)))
	left := int(whole.Int64())
	parts, cuts := make([]int, len(weights)), make([]*big.Int, len(weights))
	for i, w := range weights {
		share := new(big.Int).Mul(whole, big.NewInt(int64(w)))
		share, cuts[i] = share.QuoRem(share, total, new(big.Int))
		parts[i] = int(share.Int64())
		left -= parts[i]
	}
	for range left {
		top := 0
		for i := range cuts {
			if cuts[i].Cmp(cuts[top]) > 0 {
				top = i
			}
		}
		parts[top]++
		cuts[top].SetInt64(-1)
	}
	for i := range parts {
		if a < 0 {
			parts[i] = -parts[i]
		}
	}
	return parts
}

func checkSplitByBig(t *testing.T, a int, weights []int) {
	t.Helper()
	got, err := money.Split(a, weights...)
	if want := splitByBig(a, weights); !slices.Equal(got, want) || err != api.OK {
		t.Fatalf("Split(%d, %v) = %v, %d, want %v, OK", a, weights, got, err, want)
	}
	if sum, err := money.Add(got...); sum != a || err != api.OK {
		t.Fatalf("Split(%d, %v) comes to %d, %d", a, weights, sum, err)
	}
}

func TestSplitAgainstBigNumbers(t *testing.T) {
	r := rand.New(rand.NewSource(103))
	for range 5_000 {
		few, many := make([]int, 1+r.Intn(20)), make([]int, 1+r.Intn(20))
		for i := range few {
			few[i] = r.Intn(4)
		}
		for i := range many {
			many[i] = r.Intn(1_000_001)
		}
		few[r.Intn(len(few))] = 1
		many[r.Intn(len(many))] = 1_000_000
		checkSplitByBig(t, r.Intn(201)-100, few)
		checkSplitByBig(t, r.Intn(2*most+1)-most, few)
		checkSplitByBig(t, r.Intn(2*most+1)-most, many)
	}
}
