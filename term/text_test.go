package term_test

import (
	"fmt"
	"testing"

	"variorum/api"
	"variorum/term"
)

// P202

func TestText(t *testing.T) {
	rows := []struct {
		p    int
		want string
	}{
		{322, "2026-11"},
		{0, "2000-01"},
		{8, "2000-09"},
		{9, "2000-10"},
		{11, "2000-12"},
		{12, "2001-01"},
		{1199, "2099-12"},
	}
	for _, r := range rows {
		if got := term.Text(r.p); got != r.want {
			t.Errorf("Text(%d) = %q, want %q", r.p, got, r.want)
		}
	}
	for _, p := range far() {
		if got := term.Text(p); (p < 0 || p > api.MaxPeriod) && got != "" {
			t.Errorf("Text(%d) = %q, want nothing", p, got)
		}
	}
}

func TestParseOfEachText(t *testing.T) {
	for p := range api.MaxPeriod + 1 {
		text := fmt.Sprintf("%04d-%02d", 2000+p/12, 1+p%12)
		if got := term.Text(p); got != text {
			t.Errorf("Text(%d) = %q, want %q", p, got, text)
		}
		if got, err := term.Parse(text); got != p || err != api.OK {
			t.Errorf("Parse(%q) = %d, %d, want %d", text, got, err, p)
		}
	}
}

func TestParseOfWrongTexts(t *testing.T) {
	wrong := []string{"", "-", "2026", "2026-", "-11", "202611", "2026-1", "2026-1 ", "2026-011", "2026-111", "02026-1", "02026-11",
		"2026-00", "2026-13", "2026-99", "1999-12", "2100-01", "0000-01", "9999-12", "0026-11", "26-11",
		"2026/11", "2026_11", "2026 11", "2026:11", "20260-1", "202-611", "2026--1", "2026-+1", "+026-11", "-026-11",
		" 2026-11", "2026-11 ", "2026-11\n", "\n026-11", "2026- 1", "2026-1x", "x026-11", "2O26-11", "2026-1\x00", "2026-1:", "2026-/1",
		"2_26-11", "0x26-11", "2e26-11", "2026-1.", "２026-1", "202６-1", "2026–11", "180/-11", "00\x006-11", "2026-\xff1", "2026-11-01"}
	for _, text := range wrong {
		if got, err := term.Parse(text); got != 0 || err != api.ErrForm {
			t.Errorf("Parse(%q) = %d, %d, want 0, %d", text, got, err, api.ErrForm)
		}
	}
}

func TestParseOfEachOtherByte(t *testing.T) {
	const good = "2026-11"
	for i := range len(good) {
		for b := range 256 {
			text := []byte(good)
			text[i] = byte(b)
			want, wantErr := 0, api.ErrForm
			for p := range api.MaxPeriod + 1 {
				if term.Text(p) == string(text) {
					want, wantErr = p, api.OK
				}
			}
			if got, err := term.Parse(string(text)); got != want || err != wantErr {
				t.Errorf("Parse(%q) = %d, %d, want %d, %d", text, got, err, want, wantErr)
			}
		}
	}
}
