package lexer

import (
	"strings"

	"sandpile/api"
)

// The bytes that are signs.
const signs = ",;:(){}[]=+-*/<>."

// class says how what begins with a byte is read.
type class struct {
	kind  int  // of the token
	blank bool // there is no token, but a blank
	// read returns the end of what begins at an offset, or why it cannot be read.
	read func(text string, at int) (int, api.Errno)
}

// classes returns the class of each byte.
func classes() [256]class {
	var of [256]class
	for b := range of {
		of[b] = class{read: readNothing}
	}
	for b := 'a'; b <= 'z'; b++ {
		of[b] = class{kind: api.TokenWord, read: readWord}
	}
	for b := '0'; b <= '9'; b++ {
		of[b] = class{kind: api.TokenNumber, read: readNumber}
	}
	for _, b := range signs {
		of[b] = class{kind: api.TokenSign, read: readOne}
	}
	of[' '] = class{blank: true, read: readOne}
	return of
}

// readNothing is for bytes that belong to no token.
func readNothing(string, int) (int, api.Errno) { return 0, api.ErrSyntax }

// readOne reads a single byte.
func readOne(_ string, at int) (int, api.Errno) { return at + 1, api.OK }

// readWord reads a run of letters.
func readWord(text string, at int) (int, api.Errno) {
	end := runEnd(text, at, isLetter)
	if end-at > api.MaxName {
		return 0, api.ErrLong
	}
	return end, api.OK
}

// readNumber reads a run of digits. Too many of them are the first error, whatever they begin with.
func readNumber(text string, at int) (int, api.Errno) {
	end := runEnd(text, at, isDigit)
	if end-at > api.MaxLong {
		return 0, api.ErrLarge
	}
	if text[at] == '0' && end-at > 1 {
		return 0, api.ErrForm
	}
	return end, api.OK
}

// runEnd returns the end of the longest run of some bytes.
func runEnd(text string, at int, in func(b byte) bool) int {
	for at < len(text) && in(text[at]) {
		at++
	}
	return at
}

func isLetter(b byte) bool { return 'a' <= b && b <= 'z' }

func isDigit(b byte) bool { return '0' <= b && b <= '9' }

// isSign tells whether a text is a sign.
func isSign(s string) bool { return len(s) == 1 && strings.Contains(signs, s) }

// isRun tells whether a text consists of one or more of some bytes.
func isRun(s string, in func(b byte) bool) bool { return s != "" && runEnd(s, 0, in) == len(s) }
