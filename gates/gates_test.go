package gates_test

import (
	"math"
	"math/rand"
	"slices"
	"testing"

	"variorum/api"
	"variorum/gates"
)

// P501

// set is a call of Set, and what it answers.
type set struct {
	entity, period, state int
	want                  api.Errno
}

// play runs calls one behind the other.
func play(t *testing.T, g *gates.Gates, calls ...set) {
	t.Helper()
	for i, c := range calls {
		if got := g.Set(c.entity, c.period, c.state); got != c.want {
			t.Errorf("call %d: Set(%d, %d, %d) = %d, want %d", i, c.entity, c.period, c.state, got, c.want)
		}
	}
}

func checkAll(t *testing.T, what string, g *gates.Gates, want ...[3]int) {
	t.Helper()
	if got := g.All(); !slices.Equal(got, want) {
		t.Errorf("%s: All() = %v, want %v", what, got, want)
	}
}

func checkState(t *testing.T, g *gates.Gates, entity, period, want int) {
	t.Helper()
	if got := g.State(entity, period); got != want {
		t.Errorf("State(%d, %d) = %d, want %d", entity, period, got, want)
	}
	wantMay := api.OK
	if want != gates.Open {
		wantMay = api.ErrClosed
	}
	if got := g.May(entity, period); got != wantMay {
		t.Errorf("May(%d, %d) = %d, want %d", entity, period, got, wantMay)
	}
}

func TestStatesHaveTheirNumbers(t *testing.T) {
	if gates.Open != 0 || gates.Shut != 1 || gates.Locked != 2 {
		t.Errorf("the states are %d, %d, %d", gates.Open, gates.Shut, gates.Locked)
	}
}

func TestZeroIsOpen(t *testing.T) {
	var g gates.Gates
	for entity := 1; entity <= api.MaxEntity; entity++ {
		for period := range api.MaxPeriod + 1 {
			checkState(t, &g, entity, period, gates.Open)
		}
	}
	checkAll(t, "a zero one", &g)
}

func TestEachStep(t *testing.T) {
	rows := []struct {
		name  string
		ahead []int // the states that lead to the one that is stepped from
		state int
		want  api.Errno
		then  int
	}{
		{"open to open", nil, gates.Open, api.OK, gates.Open},
		{"open to shut", nil, gates.Shut, api.OK, gates.Shut},
		{"open to locked", nil, gates.Locked, api.ErrState, gates.Open},
		{"shut to open", []int{1}, gates.Open, api.OK, gates.Open},
		{"shut to shut", []int{1}, gates.Shut, api.OK, gates.Shut},
		{"shut to locked", []int{1}, gates.Locked, api.OK, gates.Locked},
		{"locked to open", []int{1, 2}, gates.Open, api.ErrState, gates.Locked},
		{"locked to shut", []int{1, 2}, gates.Shut, api.ErrState, gates.Locked},
		{"locked to locked", []int{1, 2}, gates.Locked, api.ErrState, gates.Locked},
		{"opened again to locked", []int{1, 0}, gates.Locked, api.ErrState, gates.Open},
		{"opened again to shut", []int{1, 0}, gates.Shut, api.OK, gates.Shut},
	}
	for _, r := range rows {
		t.Run(r.name, func(t *testing.T) {
			var g gates.Gates
			for _, state := range r.ahead {
				play(t, &g, set{1, 5, state, api.OK})
			}
			play(t, &g, set{1, 5, r.state, r.want})
			checkState(t, &g, 1, 5, r.then)
			if r.then == gates.Open {
				checkAll(t, r.name, &g)
			} else {
				checkAll(t, r.name, &g, [3]int{1, 5, r.then})
			}
		})
	}
}

func TestSetOfOneLeavesTheOthers(t *testing.T) {
	var g gates.Gates
	play(t, &g, set{2, 7, 1, 0}, set{1, 7, 1, 0}, set{2, 6, 1, 0}, set{2, 8, 1, 0}, set{3, 7, 1, 0})
	play(t, &g, set{2, 7, 2, 0})
	checkAll(t, "locked", &g, [3]int{1, 7, 1}, [3]int{2, 6, 1}, [3]int{2, 7, 2}, [3]int{2, 8, 1}, [3]int{3, 7, 1})
	play(t, &g, set{2, 6, 0, 0}, set{3, 7, 0, 0}, set{1, 7, 0, 0})
	checkAll(t, "opened", &g, [3]int{2, 7, 2}, [3]int{2, 8, 1})
	checkState(t, &g, 7, 2, gates.Open)
	checkState(t, &g, 1, 6, gates.Open)
}

func TestAllIsInOrder(t *testing.T) {
	var g gates.Gates
	play(t, &g, set{9, 1199, 1, 0}, set{1, 10, 1, 0}, set{2, 3, 1, 0}, set{1, 9, 1, 0}, set{9, 0, 1, 0}, set{1, 0, 1, 0}, set{1, 1199, 1, 0})
	checkAll(t, "in order", &g, [3]int{1, 0, 1}, [3]int{1, 9, 1}, [3]int{1, 10, 1}, [3]int{1, 1199, 1}, [3]int{2, 3, 1}, [3]int{9, 0, 1}, [3]int{9, 1199, 1})
}

func TestWrongArguments(t *testing.T) {
	var g gates.Gates
	play(t, &g, set{1, 5, 1, 0}, set{1, 6, 1, 0}, set{1, 6, 2, 0})
	for _, entity := range []int{math.MinInt, -1, 0, 10, 1 << 32, 1<<32 + 1, math.MaxInt} {
		play(t, &g, set{entity, 5, 0, api.ErrArg}, set{entity, 5, 1, api.ErrArg}, set{entity, 5, 2, api.ErrArg})
		checkWrong(t, &g, entity, 5)
	}
	for _, period := range []int{math.MinInt, -1, 1200, 1 << 32, 1<<32 + 5, math.MaxInt} {
		play(t, &g, set{1, period, 0, api.ErrArg}, set{1, period, 1, api.ErrArg}, set{1, period, 2, api.ErrArg})
		checkWrong(t, &g, 1, period)
	}
	for _, state := range []int{math.MinInt, -1, 3, 1 << 32, 1<<32 + 1, math.MaxInt} {
		// ErrArg counts ahead of ErrState, so also of the locked one.
		play(t, &g, set{1, 4, state, api.ErrArg}, set{1, 5, state, api.ErrArg}, set{1, 6, state, api.ErrArg}, set{0, 5, state, api.ErrArg})
	}
	checkAll(t, "behind wrong calls", &g, [3]int{1, 5, 1}, [3]int{1, 6, 2})
}

// checkWrong asks after what may not be.
func checkWrong(t *testing.T, g *gates.Gates, entity, period int) {
	t.Helper()
	if state, may := g.State(entity, period), g.May(entity, period); state != gates.Locked || may != api.ErrArg {
		t.Errorf("State, May(%d, %d) = %d, %d, want %d, %d", entity, period, state, may, gates.Locked, api.ErrArg)
	}
}

func TestNil(t *testing.T) {
	var g *gates.Gates
	play(t, g, set{1, 5, 0, api.ErrArg}, set{1, 5, 1, api.ErrArg}, set{1, 5, 2, api.ErrArg}, set{0, -1, 9, api.ErrArg})
	checkWrong(t, g, 1, 5)
	checkWrong(t, g, 0, -1)
	checkAll(t, "a nil one", g)
	if g.Copy() != nil {
		t.Error("the copy of a nil one is not nil")
	}
}

func TestCopyGoesOnByItself(t *testing.T) {
	var g gates.Gates
	play(t, &g, set{1, 5, 1, 0}, set{1, 7, 1, 0}, set{1, 9, 1, 0}, set{2, 5, 1, 0}, set{2, 5, 0, 0})
	c := g.Copy()
	checkAll(t, "the copy", c, [3]int{1, 5, 1}, [3]int{1, 7, 1}, [3]int{1, 9, 1})
	play(t, &g, set{1, 5, 2, 0}, set{1, 6, 1, 0})
	play(t, c, set{1, 7, 2, 0}, set{1, 5, 0, 0}, set{3, 1, 1, 0})
	checkAll(t, "the first", &g, [3]int{1, 5, 2}, [3]int{1, 6, 1}, [3]int{1, 7, 1}, [3]int{1, 9, 1})
	checkAll(t, "the copy", c, [3]int{1, 7, 2}, [3]int{1, 9, 1}, [3]int{3, 1, 1})
	var zero gates.Gates
	z := zero.Copy()
	play(t, z, set{1, 5, 1, 0})
	checkAll(t, "a zero one", &zero)
	checkAll(t, "a zero one's copy", z, [3]int{1, 5, 1})
}

func TestAllSharesNothing(t *testing.T) {
	var g gates.Gates
	play(t, &g, set{1, 5, 1, 0}, set{1, 7, 1, 0})
	first := g.All()
	first[0] = [3]int{1, 5, 2}
	clear(first[:cap(first)])
	checkAll(t, "behind a written answer", &g, [3]int{1, 5, 1}, [3]int{1, 7, 1})
	second := g.All()
	play(t, &g, set{1, 5, 2, 0}, set{1, 6, 1, 0})
	if !slices.Equal(second, [][3]int{{1, 5, 1}, {1, 7, 1}}) {
		t.Errorf("an earlier answer became %v", second)
	}
}

// grid is what Gates would be with a number for each period.
type grid [api.MaxEntity + 1][api.MaxPeriod + 1]int

func (l *grid) set(entity, period, state int) api.Errno {
	if entity < 1 || entity > 9 || period < 0 || period > 1199 || state < 0 || state > 2 {
		return api.ErrArg
	}
	if l[entity][period] == 2 || state == 2 && l[entity][period] != 1 {
		return api.ErrState
	}
	l[entity][period] = state
	return api.OK
}

func (l *grid) all() [][3]int {
	var out [][3]int
	for entity := range l {
		for period, state := range l[entity] {
			if state != 0 {
				out = append(out, [3]int{entity, period, state})
			}
		}
	}
	return out
}

func TestAgainstAGrid(t *testing.T) {
	r := rand.New(rand.NewSource(5))
	periods := []int{-1, 0, 1, 2, 11, 12, 600, 1198, 1199, 1200}
	for range 30 {
		var g gates.Gates
		var want grid
		for range 300 {
			entity, period, state := r.Intn(11), periods[r.Intn(len(periods))], r.Intn(5)-1
			if r.Intn(4) > 0 {
				state = r.Intn(2)
			}
			wantErr := want.set(entity, period, state)
			play(t, &g, set{entity, period, state, wantErr})
			if entity >= 1 && entity <= 9 && period >= 0 && period <= 1199 {
				checkState(t, &g, entity, period, want[entity][period])
			}
		}
		checkAll(t, "against the grid", &g, want.all()...)
	}
}

func TestAllShut(t *testing.T) {
	var g gates.Gates
	var want grid
	for entity := api.MaxEntity; entity >= 1; entity-- {
		for period := range api.MaxPeriod + 1 {
			play(t, &g, set{entity, period, 1, want.set(entity, period, 1)})
		}
	}
	checkAll(t, "all shut", &g, want.all()...)
}
