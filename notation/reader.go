package notation

import (
	"sandpile/api"
	"sandpile/lexer"
)

// reader goes through the tokens of a text from left to right. Behind a fault it stands at the end, so that all loops over tokens end, and what it has read does not matter.
type reader struct {
	tokens []api.Token
	next   int
	at     int       // the offset of the first fault
	fault  api.Errno // OK as long as there is none
}

// scan returns a reader of a text.
func scan(text string) reader {
	tokens, at, e := lexer.Scan(text)
	if e != api.OK {
		return reader{tokens: []api.Token{{Kind: api.TokenEnd}}, at: at, fault: e}
	}
	return reader{tokens: tokens}
}

// token returns the next token.
func (r *reader) token() api.Token { return r.tokens[r.next] }

// isAtEnd tells whether no token is left but the end.
func (r *reader) isAtEnd() bool { return r.token().Kind == api.TokenEnd }

// isAt tells whether a sign is next.
func (r *reader) isAt(sign string) bool {
	return r.token().Kind == api.TokenSign && r.token().Text == sign
}

// fail keeps the first fault.
func (r *reader) fail(at int, e api.Errno) {
	if r.fault == api.OK {
		r.at, r.fault = at, e
	}
	r.next = len(r.tokens) - 1
}

// failSyntax says that the next token cannot stand there.
func (r *reader) failSyntax() { r.fail(r.token().At, api.ErrSyntax) }

// anyWord reads a word.
func (r *reader) anyWord() string {
	t := r.token()
	if t.Kind != api.TokenWord {
		r.failSyntax()
		return ""
	}
	r.next++
	return t.Text
}

// exactWord reads this word.
func (r *reader) exactWord(word string) {
	if t := r.token(); t.Kind != api.TokenWord || t.Text != word {
		r.failSyntax()
		return
	}
	r.next++
}

// sign reads this sign.
func (r *reader) sign(sign string) {
	if !r.isAt(sign) {
		r.failSyntax()
		return
	}
	r.next++
}

// number reads a natural number in a range.
func (r *reader) number(least, greatest int) int {
	if r.token().Kind != api.TokenNumber {
		r.failSyntax()
		return 0
	}
	return r.signed(least, greatest)
}

// signed reads a number in a range, which may have a sign.
func (r *reader) signed(least, greatest int) int {
	at := r.token().At
	n, next, e := lexer.Signed(r.tokens, r.next)
	switch {
	case e == api.ErrSyntax:
		if r.isAt("-") { // The sign can stand there, but not what is behind it.
			r.next++
		}
		r.failSyntax()
		return 0
	case e != api.OK || !isBetween(n, least, greatest): // A number that is too large for the lexer is out of every range.
		r.fail(at, api.ErrRange)
		return 0
	}
	r.next = next
	return n
}

// end reads the end of the text.
func (r *reader) end() {
	if !r.isAtEnd() {
		r.failSyntax()
	}
}
