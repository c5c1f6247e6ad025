package entry

import (
	"strconv"
	"strings"

	"variorum/api"
	"variorum/term"
)

// What stands in a journal's text.
const (
	partGap = " " // between two parts
	lineGap = ":" // between two numbers of a line
	noRef   = "-"
	live    = "live"
	void    = "void"
)

// Text tells a journal's text.
func Text(j api.Journal) (string, api.Errno) {
	if err := Check(j); err != api.OK {
		return "", err
	}
	parts := []string{strconv.Itoa(j.Id), strconv.Itoa(j.Entity), term.Text(j.Period), refText(j.Ref), stateText(j.Void)}
	for _, l := range j.Lines {
		parts = append(parts, lineText(l))
	}
	return strings.Join(parts, partGap), api.OK
}

func refText(ref string) string {
	if ref == "" {
		return noRef
	}
	return ref
}

func stateText(isVoid bool) string {
	if isVoid {
		return void
	}
	return live
}

func lineText(l api.Line) string {
	return strconv.Itoa(l.Account) + lineGap + strconv.Itoa(l.Amount) + lineGap + strconv.Itoa(l.Partner)
}

// Parse tells a text's journal.
func Parse(s string) (api.Journal, api.Errno) {
	var j api.Journal
	r := newReader(s, partGap)
	for _, read := range []func(*api.Journal) bool{r.id, r.entity, r.period, r.ref, r.state, r.lines} {
		if !read(&j) {
			return api.Journal{}, api.ErrForm
		}
	}
	if Check(j) != api.OK {
		return api.Journal{}, api.ErrForm
	}
	return j, api.OK
}
