package entry_test

import (
	"fmt"
	"math/big"
	"math/rand"
	"regexp"
	"slices"
	"strings"
	"testing"

	"variorum/api"
	"variorum/entry"
)

// P403

const goodText = "7 1 2026-11 A1 live 100:5:0 200:-5:2"

func TestText(t *testing.T) {
	rows := []struct {
		j    api.Journal
		want string
		err  api.Errno
	}{
		{good(), goodText, api.OK},
		{api.Journal{Id: 1, Entity: 9, Void: true, Lines: []api.Line{line(1, -most), line(9_999, most)}}, "1 9 2000-01 - void 1:-1000000000000000:0 9999:1000000000000000:0", api.OK},
		{api.Journal{Id: 999_999, Entity: 3, Period: 1199, Ref: "AZ09BCDE", Lines: alternate(8)}, "999999 3 2099-12 AZ09BCDE live 1:1:0 2:-1:0 3:1:0 4:-1:0 5:1:0 6:-1:0 7:1:0 8:-1:0", api.OK},
		{with(func(j *api.Journal) { j.Ref = "VOID" }), "7 1 2026-11 VOID live 100:5:0 200:-5:2", api.OK},
		{api.Journal{}, "", api.ErrArg},
		{with(func(j *api.Journal) { j.Ref = "-" }), "", api.ErrArg},
		{with(func(j *api.Journal) { j.Period = 1200 }), "", api.ErrArg},
		{withLines(line(1, most+1), line(2, -most-1)), "", api.ErrMoney},
		{withLines(line(1, 5), line(2, -4)), "", api.ErrBalance},
	}
	for _, r := range rows {
		if got, err := entry.Text(r.j); got != r.want || err != r.err {
			t.Errorf("Text(%v) = %q, %d, want %q, %d", r.j, got, err, r.want, r.err)
		}
		if r.err == api.OK {
			got, err := entry.Parse(r.want)
			checkJournal(t, "Parse of "+r.want, got, err, r.j, api.OK)
		}
	}
}

// Each of these is near to a text, and is none.
func TestParseOfWrongTexts(t *testing.T) {
	wrong := []string{"", " ", "7", "7 1", "7 1 2026-11", "7 1 2026-11 A1", "7 1 2026-11 A1 live", "7 1 2026-11 A1 live ", "7 1 2026-11 A1 live 100:5:0",
		" " + goodText, goodText + " ", goodText + "\n", goodText + "  ", goodText + " 1", goodText + " 300:0:0", goodText + ":", goodText + ":0",
		strings.ReplaceAll(goodText, " ", "  "), strings.ReplaceAll(goodText, " ", ","), strings.ReplaceAll(goodText, " ", "\t"), strings.ReplaceAll(goodText, ":", ";"),
		goodText + " " + goodText, strings.Repeat(goodText+" ", 1_000), goodText + strings.Repeat(" 1:1:0 1:-1:0", 4), goodText + strings.Repeat(" 1:1:0 1:-1:0", 100_000)}
	swaps := [][2]string{
		{"7 ", "07 "}, {"7 ", "+7 "}, {"7 ", "-7 "}, {"7 ", "0 "}, {"7 ", "1000000 "}, {"7 ", "x "}, {"7 ", "0x7 "}, {"7 ", "7_0 "}, {"7 ", "７ "}, {"7 ", "18446744073709551623 "},
		{" 1 ", " 0 "}, {" 1 ", " 10 "}, {" 1 ", " 01 "}, {" 1 ", " 2 1 "}, {" 1 ", " "}, {" 1 ", " 2 1 1 "},
		{"2026-11", "2026-13"}, {"2026-11", "2026-1"}, {"2026-11", "322"}, {"2026-11", "1999-12"}, {"2026-11", ""}, {"2026-11", "2026-11 2026-11"},
		{"A1", ""}, {"A1", "a1"}, {"A1", "--"}, {"A1", "A-"}, {"A1", "ABCDEFGHI"}, {"A1", "Ä"}, {"A1 ", ""}, {"A1", "A:1"},
		{"live", "dead"}, {"live", ""}, {"live", "LIVE"}, {"live", "Void"}, {"live", "live "}, {"live", "live void"}, {"live", "livevoid"}, {"live ", ""},
		{"100:", "0100:"}, {"100:", "0:"}, {"100:", "10000:"}, {"100:", "+100:"}, {"100:", "-100:"}, {"100:", ":"}, {"100:", ""},
		{":5:", ":+5:"}, {":5:", ":05:"}, {":5:", ":4:"}, {":5:", "::"}, {":5:", ":"}, {":5:", ":5"}, {":5:", ":5: "}, {":5:", ":5::"}, {":5:", ":5.0:"}, {":5:", ":99999999999999999999:"}, {":5:", ":18446744073709551621:"},
		{":-5:", ":--5:"}, {":-5:", ":-05:"}, {":-5:", ":- 5:"}, {":-5:", ":5-:"}, {":-5:", ":−5:"}, {":-5:", ":5:"},
		{":0 ", ":-0 "}, {":0 ", ":+0 "}, {":0 ", ":00 "}, {":0 ", ": "}, {":0 ", " "}, {":0 ", ":1 "}, {":0 ", ":10 "}, {":0 ", ":-1 "}, {":0 ", ":02 "}, {":0 ", ":0:0 "}, {":0 ", ":0: "},
		{"100:5:0", "100:1000000000000001:0 100:-999999999999996:0"},
		{"100:5:0 200:-5:2", "100:1000000000000001:0 200:-1000000000000001:2"},
		{"100:5:0 200:-5:2", "100:0:0 200:-0:2"},
		{"100:5:0 200:-5:2", "100:0:0 200:0:2"},
		{"100:5:0 200:-5:2", "100:5:0\n200:-5:2"},
	}
	for _, s := range swaps {
		changed := strings.Replace(goodText, s[0], s[1], 1)
		if changed == goodText {
			t.Fatalf("%q does not stand in %q", s[0], goodText)
		}
		wrong = append(wrong, changed)
	}
	for _, text := range wrong {
		if got, err := entry.Parse(text); !alike(got, api.Journal{}) || err != api.ErrForm {
			t.Errorf("Parse(%.80q) = %v, %d, want none, ErrForm", text, got, err)
		}
	}
}

// textForm is a journal's text, but for what its numbers come to.
var textForm = regexp.MustCompile(`^[1-9][0-9]{0,5} ([1-9]) 20[0-9]{2}-(?:0[1-9]|1[0-2]) (?:-|[A-Z0-9]{1,8}) (?:live|void)((?: [1-9][0-9]{0,3}:-?[1-9][0-9]*:[0-9]){2,8})$`)

// isText tells by that form, and by numbers that can't be too great, whether a text is a journal's.
func isText(s string) bool {
	found := textForm.FindStringSubmatch(s)
	if found == nil {
		return false
	}
	sum := new(big.Int)
	for _, l := range strings.Fields(found[2]) {
		parts := strings.Split(l, ":")
		amount, _ := new(big.Int).SetString(parts[1], 10)
		if parts[2] == found[1] || amount.CmpAbs(big.NewInt(most)) > 0 {
			return false
		}
		sum.Add(sum, amount)
	}
	return sum.Sign() == 0
}

// checkParse holds Parse against that form, and what it tells against Text.
func checkParse(t *testing.T, s string) {
	t.Helper()
	got, err := entry.Parse(s)
	if !isText(s) {
		checkJournal(t, fmt.Sprintf("Parse of %q", s), got, err, api.Journal{}, api.ErrForm)
		return
	}
	if back, backErr := entry.Text(got); err != api.OK || back != s || backErr != api.OK {
		t.Errorf("Parse(%q) = %v, %d, whose text is %q, %d", s, got, err, back, backErr)
	}
}

func TestParseOfEachOtherByte(t *testing.T) {
	for i := range len(goodText) {
		for b := range 256 {
			one := string([]byte{byte(b)})
			checkParse(t, goodText[:i]+one+goodText[i+1:])
			checkParse(t, goodText[:i]+one+goodText[i:])
		}
		checkParse(t, goodText[:i]+goodText[i+1:])
		checkParse(t, goodText[:i])
		checkParse(t, goodText[i:])
	}
}

func TestParseOfRandomTexts(t *testing.T) {
	r := rand.New(rand.NewSource(403))
	for range 3_000 {
		j := random(r)
		text, err := entry.Text(j)
		if err != api.OK || !isText(text) {
			t.Fatalf("Text(%v) = %q, %d", j, text, err)
		}
		got, err := entry.Parse(text)
		checkJournal(t, "Parse of "+text, got, err, j, api.OK)
		for range 10 {
			changed := []byte(text)
			changed[r.Intn(len(changed))] = "0123456789:- AZav+"[r.Intn(18)]
			checkParse(t, string(changed))
			words := strings.Split(text, " ")
			at := r.Intn(len(words))
			checkParse(t, strings.Join(slices.Delete(words, at, at+1), " "))
		}
	}
}

// What is answered is new memory (the rules for all packages).
func TestParseSharesNothing(t *testing.T) {
	first, _ := entry.Parse(goodText)
	first.Lines[0].Amount = 999
	second, err := entry.Parse(goodText)
	checkJournal(t, "a later Parse", second, err, good(), api.OK)
}

func FuzzParse(f *testing.F) {
	f.Add(goodText)
	f.Add("1 9 2000-01 - void 1:-1000000000000000:0 9999:1000000000000000:0")
	f.Fuzz(checkParse)
}
