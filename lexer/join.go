package lexer

import (
	"strings"

	"sandpile/api"
)

// Join returns the normal text of tokens.
func Join(l []api.Token) (string, api.Errno) {
	if len(l) > api.MaxText+1 {
		return "", api.ErrMany
	}
	for i, t := range l {
		if e := check(t, i == len(l)-1); e != api.OK {
			return "", e
		}
	}
	if len(l) == 0 || l[len(l)-1].Kind != api.TokenEnd {
		return "", api.ErrOrder
	}
	return joined(l)
}

// check returns OK for a token that may stand at its place, which is the last one or another.
func check(t api.Token, last bool) api.Errno {
	right := false
	switch t.Kind {
	case api.TokenWord:
		right = Word(t.Text) == api.OK
	case api.TokenNumber:
		right = isNumber(t.Text) && len(t.Text) <= api.MaxLong
	case api.TokenSign:
		right = isSign(t.Text)
	case api.TokenEnd:
		if !last {
			return api.ErrOrder
		}
		right = t.Text == ""
	default:
		return api.ErrArg
	}
	if !right {
		return api.ErrForm
	}
	return api.OK
}

// joined returns the normal text of tokens that are right.
func joined(l []api.Token) (string, api.Errno) {
	var text strings.Builder
	for i, t := range l {
		if i > 0 && isWordOrNumber(l[i-1]) && isWordOrNumber(t) {
			text.WriteByte(' ')
		}
		text.WriteString(t.Text)
		if text.Len() > api.MaxText {
			return "", api.ErrLong
		}
	}
	return text.String(), api.OK
}

// isWordOrNumber tells whether a token is one of those that may run into each other.
func isWordOrNumber(t api.Token) bool { return t.Kind == api.TokenWord || t.Kind == api.TokenNumber }
