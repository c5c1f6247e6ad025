package term

import "variorum/api"

// textForm is a month's text: each 0 stands for any digit.
const textForm = "0000-00"

// yearDigits counts the digits ahead of the dash.
const yearDigits = 4

// Text tells a month's text.
func Text(p int) string {
	if !Valid(p) {
		return ""
	}
	text := []byte(textForm)
	putDigits(text[:yearDigits], Year(p))
	putDigits(text[yearDigits+1:], Month(p))
	return string(text)
}

// Parse tells a text's month.
func Parse(s string) (int, api.Errno) {
	if !hasForm(s) {
		return 0, api.ErrForm
	}
	p, err := Of(number(s[:yearDigits]), number(s[yearDigits+1:]))
	if err != api.OK {
		return 0, api.ErrForm
	}
	return p, api.OK
}

// putDigits fills all of room with a number's last digits.
func putDigits(room []byte, n int) {
	for i := len(room) - 1; i >= 0; i-- {
		room[i] = byte('0' + n%10)
		n /= 10
	}
}

// hasForm tells whether a text has a month's length, digits and dash; signs and blanks that strconv may take are none of them.
func hasForm(s string) bool {
	if len(s) != len(textForm) {
		return false
	}
	for i := range len(s) {
		if textForm[i] == '0' && (s[i] < '0' || s[i] > '9') || textForm[i] != '0' && s[i] != textForm[i] {
			return false
		}
	}
	return true
}

// number reads digits.
func number(digits string) int {
	n := 0
	for i := range len(digits) {
		n = 10*n + int(digits[i]-'0')
	}
	return n
}
