package lexer_test

import (
	"math/rand"
	"slices"
	"strings"
	"testing"

	"sandpile/api"
	"sandpile/lexer"
)

// The signs, and texts of exactly the limits.
const allSigns = ",;:(){}[]=+-*/<>."

var (
	longWord   = strings.Repeat("q", api.MaxName)
	longNumber = "1" + strings.Repeat("0", api.MaxLong-1)
)

func word(s string) api.Token   { return api.Token{Kind: api.TokenWord, Text: s} }
func number(s string) api.Token { return api.Token{Kind: api.TokenNumber, Text: s} }
func sign(s string) api.Token   { return api.Token{Kind: api.TokenSign, Text: s} }

var end = api.Token{Kind: api.TokenEnd}

// list is a short name for lists of tokens.
func list(l ...api.Token) []api.Token { return l }

// at gives the tokens their offsets.
func at(l []api.Token, offsets ...int) []api.Token {
	l = slices.Clone(l)
	for i := range l {
		l[i].At = offsets[i]
	}
	return l
}

// bare returns the tokens without their offsets.
func bare(l []api.Token) []api.Token { return at(l, make([]int, len(l))...) }

// tokens returns the tokens of a text that must have some.
func tokens(t *testing.T, text string) []api.Token {
	t.Helper()
	l, _, e := lexer.Scan(text)
	if e != api.OK {
		t.Fatalf("%.100q has the error %d", text, e)
	}
	return l
}

// random returns a text of some parts: most of them are right.
func random(r *rand.Rand, parts int) string {
	var s strings.Builder
	for range parts {
		switch r.Intn(12) {
		case 0, 1, 2:
			s.WriteString(strings.Repeat(" ", r.Intn(3)))
		case 3, 4:
			s.WriteByte(byte('a' + r.Intn(26)))
		case 5:
			s.WriteString(strings.Repeat("k", r.Intn(9)))
		case 6, 7:
			s.WriteByte(byte('0' + r.Intn(10)))
		case 8:
			s.WriteString("4070")
		default:
			s.WriteByte(allSigns[r.Intn(len(allSigns))])
		}
	}
	return s.String()
}

// texts returns texts of which many can be scanned, and some cannot.
func texts() []string {
	l := []string{
		"", " ", "   ", "a", "0", "a2 -3", "x2", "2x", "x 2", "a b", "1 2", "3 ? 4", "a 007", "a = - 12", "( a [ b ] ) c", "( ]", allSigns,
		longWord, longWord + "q", longNumber, longNumber + "0", "0" + longNumber, "0" + longNumber[1:], "00", "01 ?", "? 01", "a\tb", "a\nb", "A", "aB", "é", "\xff", "\x00", "x\u00a0y", "~", "_", "\"", "a!b",
		strings.Repeat(" ", api.MaxText), strings.Repeat(" ", api.MaxText+1), strings.Repeat("(", api.MaxText), strings.Repeat("(", api.MaxText+1),
		strings.Repeat("x2", api.MaxText/2), strings.Repeat("x2", api.MaxText/4), strings.Repeat("x2", api.MaxText/4) + "y", strings.Repeat("a ", api.MaxText/2), strings.Repeat("?", api.MaxText+1),
	}
	r := rand.New(rand.NewSource(7))
	for range 2000 {
		l = append(l, random(r, r.Intn(30)))
	}
	return l
}
