package lexer

import "sandpile/api"

// The greatest number that Natural returns.
const greatest = 1 << 40

// Word returns OK for words.
func Word(s string) api.Errno {
	if !isRun(s, isLetter) {
		return api.ErrForm
	}
	if len(s) > api.MaxName {
		return api.ErrLong
	}
	return api.OK
}

// Natural returns the number with a text.
func Natural(s string) (int, api.Errno) {
	if !isNumber(s) {
		return 0, api.ErrForm
	}
	n := 0
	for i := range len(s) {
		n = n*10 + int(s[i]-'0')
		// Further digits make it only greater, and would make it overflow in the end.
		if n > greatest {
			return 0, api.ErrLarge
		}
	}
	return n, api.OK
}

// isNumber tells whether a text is a natural number, of any length.
func isNumber(s string) bool { return isRun(s, isDigit) && (s[0] != '0' || s == "0") }

// Signed returns the signed number that begins at an index, and the index of the token behind it.
func Signed(l []api.Token, at int) (int, int, api.Errno) {
	if at < 0 || at >= len(l) {
		return 0, 0, api.ErrRange
	}
	factor := 1
	if is(l[at], "-") {
		factor = -1
		at++
	}
	if at == len(l) || l[at].Kind != api.TokenNumber || factor < 0 && l[at].Text == "0" {
		return 0, 0, api.ErrSyntax
	}
	n, e := Natural(l[at].Text)
	if e != api.OK {
		return 0, 0, e
	}
	return factor * n, at + 1, api.OK
}

// is tells whether a token is this sign.
func is(t api.Token, sign string) bool { return t.Kind == api.TokenSign && t.Text == sign }
