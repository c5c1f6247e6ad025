package rules_test

import (
	"math/rand"
	"testing"

	"variorum/api"
	"variorum/book"
	"variorum/chart"
	"variorum/entry"
	"variorum/gates"
	"variorum/rules"
)

// model answers from plain lists what Rules should.
type model struct {
	live   map[int]int // account: 1 live, 2 retired
	closed map[[2]int]int
	list   []api.Journal
}

func (m *model) find(id int) int {
	for i, j := range m.list {
		if j.Id == id {
			return i
		}
	}
	return -1
}

func (m *model) accounts(j api.Journal) api.Errno {
	for _, l := range j.Lines {
		switch m.live[l.Account] {
		case 0:
			return api.ErrAccount
		case 2:
			return api.ErrRetired
		}
	}
	return api.OK
}

func (m *model) isShut(j api.Journal) bool { return m.closed[[2]int{j.Entity, j.Period}] != 0 }

func (m *model) taken(j api.Journal) bool {
	for _, o := range m.list {
		if j.Ref != "" && o.Id != j.Id && !o.Void && o.Entity == j.Entity && o.Ref == j.Ref {
			return true
		}
	}
	return false
}

func sumIn(list []api.Journal, account, entity int) int {
	sum := 0
	for _, j := range list {
		for _, l := range j.Lines {
			if !j.Void && j.Entity == entity && l.Account == account {
				sum += l.Amount
			}
		}
	}
	return sum
}

// money looks at each account there might be, of each entity.
func money(list []api.Journal) api.Errno {
	for account := range 6 {
		for entity := range 4 {
			if sum := sumIn(list, account, entity); sum > most || sum < -most {
				return api.ErrMoney
			}
		}
	}
	return api.OK
}

// instead is the list with a journal in another one's place.
func (m *model) instead(i int, j api.Journal) []api.Journal {
	list := append([]api.Journal{}, m.list...)
	list[i] = j
	return list
}

func (m *model) post(j api.Journal) api.Errno {
	if err := entry.Check(j); err != api.OK {
		return err
	}
	if err := m.accounts(j); err != api.OK {
		return err
	}
	switch {
	case m.isShut(j):
		return api.ErrClosed
	case j.Void:
		return api.ErrArg
	case m.find(j.Id) >= 0:
		return api.ErrDup
	case m.taken(j):
		return api.ErrRef
	}
	return money(append(append([]api.Journal{}, m.list...), j))
}

func (m *model) amend(j api.Journal) api.Errno {
	if err := entry.Check(j); err != api.OK {
		return err
	}
	if err := m.accounts(j); err != api.OK {
		return err
	}
	i := m.find(j.Id)
	switch {
	case i < 0:
		return api.ErrNone
	case m.list[i].Void:
		return api.ErrState
	case m.isShut(m.list[i]) || m.isShut(j):
		return api.ErrClosed
	case j.Void || j.Entity != m.list[i].Entity:
		return api.ErrArg
	case m.taken(j):
		return api.ErrRef
	}
	return money(m.instead(i, j))
}

func (m *model) void(id int) api.Errno {
	i := m.find(id)
	switch {
	case i < 0:
		return api.ErrNone
	case m.list[i].Void:
		return api.ErrState
	case m.isShut(m.list[i]):
		return api.ErrClosed
	}
	return money(m.instead(i, void(m.list[i])))
}

func (m *model) reverse(id, as, period int) (api.Journal, api.Errno) {
	i := m.find(id)
	if i < 0 {
		return api.Journal{}, api.ErrNone
	}
	if m.list[i].Void {
		return api.Journal{}, api.ErrState
	}
	back := api.Journal{Id: as, Entity: m.list[i].Entity, Period: period}
	for _, l := range m.list[i].Lines {
		back.Lines = append(back.Lines, api.Line{Account: l.Account, Amount: -l.Amount, Partner: l.Partner})
	}
	if err := entry.Check(back); err != api.OK {
		return api.Journal{}, err
	}
	if err := m.post(back); err != api.OK {
		return api.Journal{}, err
	}
	return back, api.OK
}

// drawn makes a journal of few numbers, so that many of them meet.
func drawn(d *rand.Rand) api.Journal {
	amounts := []int{1, 5, most / 2, most - 1, most, -1, -5, -most / 2, -most}
	amount := amounts[d.Intn(len(amounts))]
	j := api.Journal{Id: d.Intn(9), Entity: 1 + d.Intn(3), Period: d.Intn(4), Ref: []string{"", "", "A", "B"}[d.Intn(4)], Void: d.Intn(8) == 0}
	account := func() int {
		if d.Intn(6) > 0 {
			return 1 + d.Intn(2)
		}
		return 1 + d.Intn(5)
	}
	j.Lines = []api.Line{line(account(), amount), line(account(), -amount)}
	if d.Intn(10) == 0 {
		j.Lines = append(j.Lines, line(account(), 3), line(account(), -3))
	}
	if d.Intn(15) == 0 {
		j.Lines[0].Amount++
	}
	return j
}

// drawnRules makes Rules, and the model of them. Its book may hold too much, for a Book by itself takes that.
func drawnRules(d *rand.Rand) (rules.Rules, *model) {
	r := rules.Rules{Chart: &chart.Chart{}, Gates: &gates.Gates{}, Book: &book.Book{}}
	m := &model{live: map[int]int{}, closed: map[[2]int]int{}}
	for code := 1; code <= 4; code++ {
		r.Chart.Add(code, api.Asset)
		m.live[code] = 1
	}
	r.Chart.Retire(3)
	m.live[3] = 2
	for range 2 {
		entity, period := 1+d.Intn(3), d.Intn(4)
		r.Gates.Set(entity, period, gates.Shut)
		m.closed[[2]int{entity, period}] = 1
	}
	for range d.Intn(8) {
		if j := drawn(d); r.Book.Post(j) == api.OK {
			m.list = append(m.list, j)
		}
	}
	return r, m
}

// TestAgainstPlainLists holds P701 and P702 against plain lists, and looks that each error comes up.
func TestAgainstPlainLists(t *testing.T) {
	d := rand.New(rand.NewSource(7))
	seen := map[string]map[api.Errno]int{"Post": {}, "Amend": {}, "Void": {}, "Reverse": {}}
	for range 1500 {
		r, m := drawnRules(d)
		was := stateOf(r)
		for range 20 {
			j := drawn(d)
			seen["Post"][m.post(j)]++
			checkErr(t, "Post", r.Post(j), m.post(j))
			seen["Amend"][m.amend(j)]++
			checkErr(t, "Amend", r.Amend(j), m.amend(j))
			seen["Void"][m.void(j.Id)]++
			checkErr(t, "Void", r.Void(j.Id), m.void(j.Id))
			as, period := d.Intn(12), d.Intn(5)-1
			want, err := m.reverse(j.Id, as, period)
			seen["Reverse"][err]++
			checkReverse(t, r, j.Id, as, period, want, err)
			account, entity := d.Intn(6), d.Intn(4)
			checkSum(t, r, account, entity, sumIn(m.list, account, entity))
		}
		checkKept(t, r, was)
	}
	checkSeen(t, seen)
}

// checkSeen tells whether what was drawn came by each error.
func checkSeen(t *testing.T, seen map[string]map[api.Errno]int) {
	t.Helper()
	want := map[string][]api.Errno{
		"Post":    {api.OK, api.ErrArg, api.ErrBalance, api.ErrAccount, api.ErrRetired, api.ErrClosed, api.ErrDup, api.ErrRef, api.ErrMoney},
		"Amend":   {api.OK, api.ErrArg, api.ErrBalance, api.ErrAccount, api.ErrRetired, api.ErrNone, api.ErrState, api.ErrClosed, api.ErrRef, api.ErrMoney},
		"Void":    {api.OK, api.ErrNone, api.ErrState, api.ErrClosed, api.ErrMoney},
		"Reverse": {api.OK, api.ErrArg, api.ErrAccount, api.ErrRetired, api.ErrNone, api.ErrState, api.ErrClosed, api.ErrDup, api.ErrMoney},
	}
	for call, list := range want {
		for _, err := range list {
			if seen[call][err] == 0 {
				t.Errorf("%s: no journal was drawn that has error %d", call, err)
			}
		}
	}
}
