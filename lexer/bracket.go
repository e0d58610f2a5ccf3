package lexer

import (
	"strings"

	"sandpile/api"
)

// Close returns the index of the bracket that closes the one at an index.
func Close(l []api.Token, at int) (int, api.Errno) {
	if at < 0 || at >= len(l) {
		return 0, api.ErrRange
	}
	if closing(l[at]) == "" {
		return 0, api.ErrSyntax
	}
	// The brackets that are still awaited, the next one at the end.
	var awaited []string
	for i := at; i < len(l); i++ {
		if c := closing(l[i]); c != "" {
			awaited = append(awaited, c)
			continue
		}
		if !isClosing(l[i]) {
			continue
		}
		last := len(awaited) - 1
		if l[i].Text != awaited[last] {
			return 0, api.ErrForm
		}
		if awaited = awaited[:last]; last == 0 {
			return i, api.OK
		}
	}
	return 0, api.ErrForm
}

// closing returns the sign that closes an opening bracket, and nothing for other tokens.
func closing(t api.Token) string {
	if t.Kind != api.TokenSign {
		return ""
	}
	switch t.Text {
	case "(":
		return ")"
	case "[":
		return "]"
	case "{":
		return "}"
	}
	return ""
}

// isClosing tells whether a token is a closing bracket.
func isClosing(t api.Token) bool {
	return t.Kind == api.TokenSign && len(t.Text) == 1 && strings.Contains(")]}", t.Text)
}
