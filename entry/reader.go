package entry

import (
	"strconv"
	"strings"

	"variorum/api"
	"variorum/term"
)

// reader takes a text's parts one behind the other. Its ways of reading a part tell whether the part was just so.
type reader struct {
	rest string
	gap  string
	more bool // behind a last gap stands an empty part, so that an empty rest does not tell the end
}

func newReader(text, gap string) *reader {
	return &reader{rest: text, gap: gap, more: true}
}

// part takes the next one; behind the last one all are empty, which no part of a journal's text is.
func (r *reader) part() string {
	var p string
	p, r.rest, r.more = strings.Cut(r.rest, r.gap)
	return p
}

// number takes one as Itoa writes it: Atoi alone would take zeros ahead, a plus, and -0.
func (r *reader) number(into *int) bool {
	p := r.part()
	n, err := strconv.Atoi(p)
	if err != nil || strconv.Itoa(n) != p {
		return false
	}
	*into = n
	return true
}

func (r *reader) id(j *api.Journal) bool { return r.number(&j.Id) }

func (r *reader) entity(j *api.Journal) bool { return r.number(&j.Entity) }

func (r *reader) period(j *api.Journal) bool {
	p, err := term.Parse(r.part())
	j.Period = p
	return err == api.OK
}

// ref takes an outer reference; what bytes it may have is left to Check.
func (r *reader) ref(j *api.Journal) bool {
	p := r.part()
	if p != noRef {
		j.Ref = p
	}
	return p != ""
}

func (r *reader) state(j *api.Journal) bool {
	p := r.part()
	j.Void = p == void
	return p == live || p == void
}

// lines takes all that is left; it stops behind one too many, which Check refuses.
func (r *reader) lines(j *api.Journal) bool {
	for r.more && len(j.Lines) <= api.MaxLines {
		var l api.Line
		if !r.line(&l) {
			return false
		}
		j.Lines = append(j.Lines, l)
	}
	return true
}

func (r *reader) line(l *api.Line) bool {
	inner := newReader(r.part(), lineGap)
	return inner.number(&l.Account) && inner.number(&l.Amount) && inner.number(&l.Partner) && !inner.more
}
