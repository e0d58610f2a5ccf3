package lexer_test

import (
	"regexp"
	"slices"
	"strings"
	"testing"

	"sandpile/api"
	"sandpile/lexer"
)

// Tests of P7.1.

var (
	pieces  = regexp.MustCompile(`^(?:( +)|([a-z]+)|([0-9]+)|([,;:(){}\[\]=+\-*/<>.]))`)
	natural = regexp.MustCompile(`^(?:0|[1-9][0-9]*)$`)
	letters = regexp.MustCompile(`^[a-z]+$`)
	special = regexp.MustCompile(`^[,;:(){}\[\]=+\-*/<>.]$`)
)

// scan follows the definition of the tokens of a text.
func scan(text string) ([]api.Token, int, api.Errno) {
	if len(text) > api.MaxText {
		return nil, 0, api.ErrLong
	}
	l := []api.Token{}
	for at := 0; at < len(text); {
		found := pieces.FindStringSubmatch(text[at:])
		if found == nil {
			return nil, at, api.ErrSyntax
		}
		switch {
		case len(found[2]) > api.MaxName:
			return nil, at, api.ErrLong
		case found[2] != "":
			l = append(l, api.Token{Kind: api.TokenWord, Text: found[2], At: at})
		case len(found[3]) > api.MaxLong:
			return nil, at, api.ErrLarge
		case found[3] != "" && !natural.MatchString(found[3]):
			return nil, at, api.ErrForm
		case found[3] != "":
			l = append(l, api.Token{Kind: api.TokenNumber, Text: found[3], At: at})
		case found[4] != "":
			l = append(l, api.Token{Kind: api.TokenSign, Text: found[4], At: at})
		}
		at += len(found[0])
	}
	return append(l, api.Token{Kind: api.TokenEnd, At: len(text)}), 0, api.OK
}

// join follows the definition of the normal text and the errors of Join.
func join(l []api.Token) (string, api.Errno) {
	if len(l) > api.MaxText+1 {
		return "", api.ErrMany
	}
	text, before := "", false
	for i, t := range l {
		if t.Kind < api.TokenWord || t.Kind > api.TokenEnd {
			return "", api.ErrArg
		}
		if t.Kind == api.TokenEnd && i < len(l)-1 {
			return "", api.ErrOrder
		}
		right := map[int]bool{
			api.TokenWord:   letters.MatchString(t.Text) && len(t.Text) <= api.MaxName,
			api.TokenNumber: natural.MatchString(t.Text) && len(t.Text) <= api.MaxLong,
			api.TokenSign:   special.MatchString(t.Text),
			api.TokenEnd:    t.Text == "",
		}
		if !right[t.Kind] {
			return "", api.ErrForm
		}
		long := t.Kind == api.TokenWord || t.Kind == api.TokenNumber
		if before && long {
			text += " "
		}
		text, before = text+t.Text, long
	}
	switch {
	case len(l) == 0 || l[len(l)-1].Kind != api.TokenEnd:
		return "", api.ErrOrder
	case len(text) > api.MaxText:
		return "", api.ErrLong
	}
	return text, api.OK
}

func TestScan(t *testing.T) {
	for _, text := range texts() {
		want, place, error := scan(text)
		got, at, e := lexer.Scan(text)
		if e != error || at != place || !slices.Equal(got, want) {
			t.Errorf("Scan %.200q: %.200v, %d, %d; want %.200v, %d, %d", text, got, at, e, want, place, error)
		}
	}
	for _, x := range []struct {
		text string
		want []api.Token
	}{
		{"", list(end)},
		{"   ", at(list(end), 3)},
		{"a2 -3", at(list(word("a"), number("2"), sign("-"), number("3"), end), 0, 1, 3, 4, 5)},
		{"x2", at(list(word("x"), number("2"), end), 0, 1, 2)},
		{"0 x", at(list(number("0"), word("x"), end), 0, 2, 3)},
		{"10a05", nil},
		{" <=> ", at(list(sign("<"), sign("="), sign(">"), end), 1, 2, 3, 5)},
		{"az.09", nil},
		{"az.90 ", at(list(word("az"), sign("."), number("90"), end), 0, 2, 3, 6)},
		{longWord + longNumber + longWord, at(list(word(longWord), number(longNumber), word(longWord), end), 0, api.MaxName, api.MaxName+api.MaxLong, 2*api.MaxName+api.MaxLong)},
	} {
		got, _, e := lexer.Scan(x.text)
		if !slices.Equal(got, x.want) || (e == api.OK) != (x.want != nil) {
			t.Errorf("Scan %.100q: %.200v beside the error %d", x.text, got, e)
		}
	}
}

// TestBytes scans each byte: alone, and among others.
func TestBytes(t *testing.T) {
	for b := range 256 {
		s := string([]byte{byte(b)})
		kind := api.TokenEnd
		switch {
		case letters.MatchString(s):
			kind = api.TokenWord
		case natural.MatchString(s):
			kind = api.TokenNumber
		case strings.Contains(allSigns, s):
			kind = api.TokenSign
		}
		for _, x := range []struct {
			text string
			at   int
		}{{s, 0}, {"(" + s, 1}, {"  " + s + ")", 2}, {"a " + s, 2}, {"5 " + s + " 6", 2}, {"()" + s + "?", 2}} {
			got, at, e := lexer.Scan(x.text)
			switch {
			case strings.HasSuffix(x.text, "?") && (kind != api.TokenEnd || b == ' '):
				if e != api.ErrSyntax || at != 3 {
					t.Errorf("Scan %q: the error %d at %d", x.text, e, at)
				}
			case kind == api.TokenEnd && b != ' ':
				if e != api.ErrSyntax || at != x.at || len(got) != 0 {
					t.Errorf("Scan %q: %v, and the error %d at %d", x.text, got, e, at)
				}
			case b == ' ':
				if e != api.OK || slices.ContainsFunc(got, func(t api.Token) bool { return t.Text == " " }) {
					t.Errorf("Scan %q: %v, and the error %d", x.text, got, e)
				}
			default:
				if e != api.OK || at != 0 || !slices.Contains(got, api.Token{Kind: kind, Text: s, At: x.at}) {
					t.Errorf("Scan %q: %v, and the error %d at %d", x.text, got, e, at)
				}
			}
		}
	}
}

func TestScanErrors(t *testing.T) {
	for _, x := range []struct {
		text string
		at   int
		e    api.Errno
	}{
		{"3 ? 4", 2, api.ErrSyntax}, {"a 007", 2, api.ErrForm}, {"aB", 1, api.ErrSyntax}, {"a\tb", 1, api.ErrSyntax}, {"a,b\n", 3, api.ErrSyntax}, {"é", 0, api.ErrSyntax}, {"a é", 2, api.ErrSyntax}, {"ab\xff", 2, api.ErrSyntax}, {"\x00", 0, api.ErrSyntax},
		{"00", 0, api.ErrForm}, {"x00", 1, api.ErrForm}, {"10 00", 3, api.ErrForm}, {"0 0", 0, api.OK}, {"-0", 0, api.OK}, {"-01", 1, api.ErrForm}, {"0a0", 0, api.OK}, {"0.00", 2, api.ErrForm},
		// The first byte that cannot be read counts, and not what is worse.
		{"? 01", 0, api.ErrSyntax}, {"01 ?", 0, api.ErrForm}, {"01?", 0, api.ErrForm}, {longWord + "q?", 0, api.ErrLong}, {"?" + longWord + "q", 0, api.ErrSyntax}, {"a ?" + longNumber + "0", 2, api.ErrSyntax}, {"05 " + longNumber + "0", 0, api.ErrForm},
		{longWord, 0, api.OK}, {longWord + "q", 0, api.ErrLong}, {"5" + longWord + "q", 1, api.ErrLong}, {longWord + " " + longWord + "q", api.MaxName + 1, api.ErrLong}, {longWord + " q", 0, api.OK}, {longWord + "1" + longWord, 0, api.OK},
		{longNumber, 0, api.OK}, {longNumber + "0", 0, api.ErrLarge}, {"- " + longNumber + "0", 2, api.ErrLarge}, {longNumber + " 0", 0, api.OK},
		// Too many digits are too many, whatever the first one is.
		{"0" + longNumber[1:], 0, api.ErrForm}, {"0" + longNumber, 0, api.ErrLarge}, {"x" + strings.Repeat("0", api.MaxLong), 1, api.ErrForm}, {"x" + strings.Repeat("0", api.MaxLong+1), 1, api.ErrLarge}, {"x " + strings.Repeat("0", api.MaxText-2), 2, api.ErrLarge},
		// Texts of exactly MaxText bytes, and more.
		{strings.Repeat("ab ", api.MaxText/3) + ";", 0, api.OK}, {strings.Repeat("+", api.MaxText), 0, api.OK}, {strings.Repeat("+", api.MaxText-1) + "?", api.MaxText - 1, api.ErrSyntax}, {strings.Repeat("+", api.MaxText) + " ", 0, api.ErrLong}, {strings.Repeat("?", api.MaxText+1), 0, api.ErrLong}, {strings.Repeat("5", api.MaxText+1), 0, api.ErrLong}, {strings.Repeat(" ", 3*api.MaxText), 0, api.ErrLong},
	} {
		l, at, e := lexer.Scan(x.text)
		if e != x.e || at != x.at || (e == api.OK) != (len(l) > 0) {
			t.Errorf("Scan %.100q: %d tokens, and the error %d at %d", x.text, len(l), e, at)
		}
		normal, at, e := lexer.Normal(x.text)
		if x.e != api.OK && (e != x.e || at != x.at || normal != "") || x.e == api.OK && (e != x.e || at != 0) {
			t.Errorf("Normal %.100q: %.100q, and the error %d at %d", x.text, normal, e, at)
		}
	}
}

func TestJoin(t *testing.T) {
	for _, x := range []struct {
		l    []api.Token
		want string
	}{
		{list(end), ""},
		{list(word("a"), number("2"), sign("-"), number("3"), end), "a 2-3"},
		{list(word("a"), word("b"), end), "a b"},
		{list(number("1"), number("2"), end), "1 2"},
		{list(number("1"), word("a"), number("0"), end), "1 a 0"},
		{list(sign("-"), sign("-"), end), "--"},
		{list(word("a"), sign("."), word("b"), sign("."), end), "a.b."},
		{list(sign("("), word("a"), sign(")"), number("7"), sign(":"), number("8"), number("9"), end), "(a)7:8 9"},
		{list(word(longWord), number(longNumber), end), longWord + " " + longNumber},
		{at(list(word("a"), word("b"), end), 5, -3, 1<<62), "a b"},
	} {
		got, e := lexer.Join(x.l)
		if got != x.want || e != api.OK {
			t.Errorf("Join %v: %q beside the error %d", x.l, got, e)
		}
	}
	for _, s := range allSigns {
		got, e := lexer.Join(list(word("a"), sign(string(s)), number("1"), end))
		if want := "a" + string(s) + "1"; got != want || e != api.OK {
			t.Errorf("Join: %q beside the error %d, want %q", got, e, want)
		}
	}
}

// lots returns some tokens many times, and the end.
func lots(n int, l ...api.Token) []api.Token {
	var all []api.Token
	for range n {
		all = append(all, l...)
	}
	return append(all, end)
}

func TestJoinErrors(t *testing.T) {
	unknown, last := api.Token{Kind: 4, Text: "a"}, api.Token{Kind: api.TokenEnd, Text: "."}
	for i, x := range []struct {
		l []api.Token
		e api.Errno
	}{
		{nil, api.ErrOrder}, {list(), api.ErrOrder}, {list(word("a")), api.ErrOrder}, {list(sign("("), number("3")), api.ErrOrder}, {list(end, end), api.ErrOrder}, {list(end, word("a"), end), api.ErrOrder}, {list(word("a"), end, sign(";")), api.ErrOrder},
		{list(unknown, end), api.ErrArg}, {list(api.Token{Kind: -1}, end), api.ErrArg}, {list(unknown), api.ErrArg}, {list(word("a"), api.Token{Kind: 1 << 40, Text: "a"}, end), api.ErrArg},
		{list(last), api.ErrForm}, {list(api.Token{Kind: api.TokenEnd, Text: " "}), api.ErrForm}, {list(word("a"), last), api.ErrForm}, {list(last, end), api.ErrOrder}, {list(last, unknown), api.ErrOrder},
		{list(word(""), end), api.ErrForm}, {list(word("5"), end), api.ErrForm}, {list(word("A"), end), api.ErrForm}, {list(word("a b"), end), api.ErrForm}, {list(word("ab "), end), api.ErrForm}, {list(word("a5"), end), api.ErrForm}, {list(word("é"), end), api.ErrForm}, {list(word(longWord), end), api.OK}, {list(word(longWord+"q"), end), api.ErrForm}, {list(word("-"), end), api.ErrForm},
		{list(number(""), end), api.ErrForm}, {list(number("a"), end), api.ErrForm}, {list(number("00"), end), api.ErrForm}, {list(number("05"), end), api.ErrForm}, {list(number("-5"), end), api.ErrForm}, {list(number("5 "), end), api.ErrForm}, {list(number("5a"), end), api.ErrForm}, {list(number(longNumber), end), api.OK}, {list(number(longNumber+"0"), end), api.ErrForm}, {list(number("0"+longNumber), end), api.ErrForm}, {list(number("2000000000000"), end), api.OK},
		{list(sign(""), end), api.ErrForm}, {list(sign("()"), end), api.ErrForm}, {list(sign(",;"), end), api.ErrForm}, {list(sign("a"), end), api.ErrForm}, {list(sign("5"), end), api.ErrForm}, {list(sign(" "), end), api.ErrForm}, {list(sign("?"), end), api.ErrForm}, {list(sign("\xff"), end), api.ErrForm}, {list(sign("- "), end), api.ErrForm},
		// The first token with an error counts, and each one before what is missing at the end.
		{list(word("5"), unknown, end), api.ErrForm}, {list(unknown, word("5"), end), api.ErrArg}, {list(end, word("5")), api.ErrOrder}, {list(word("5"), end, end), api.ErrForm}, {list(word("a"), word("5")), api.ErrForm}, {list(word("a"), unknown), api.ErrArg},
		// The greatest number of tokens, and more.
		{lots(api.MaxText, sign("<")), api.OK}, {lots(api.MaxText+1, sign("<")), api.ErrMany}, {lots(api.MaxText+1, unknown), api.ErrMany}, {make([]api.Token, api.MaxText+1), api.ErrForm}, {make([]api.Token, api.MaxText+2), api.ErrMany}, {lots(api.MaxText, sign("<"))[:api.MaxText], api.ErrOrder}, {append(lots(api.MaxText-1, sign("<")), end), api.ErrOrder},
		// The longest text, and longer ones.
		{lots(api.MaxText/4, word("xx"), sign("."), sign(";")), api.OK}, {lots(api.MaxText/4, word("x"), number("2")), api.OK}, {lots(api.MaxText/2, word("x"), number("2")), api.ErrLong}, {lots(4, number(longNumber)), api.ErrLong}, {lots(1, number(longNumber), sign("-"), number(longNumber), sign("-"), number(longNumber), sign("-"), number("7"+longNumber[4:])), api.OK}, {lots(1, number(longNumber), sign("-"), number(longNumber), sign("-"), number(longNumber), sign("-"), number("7"+longNumber[3:])), api.ErrLong},
		{lots(2048, word("a"))[1:], api.OK}, {lots(2048, word("a")), api.OK}, {lots(2049, word("a")), api.ErrLong}, {lots(2049, word("a"))[1:2049], api.ErrOrder}, {lots(3000, word("a"))[:3000], api.ErrOrder}, {append(lots(3000, word("a"))[:3000], last), api.ErrForm},
	} {
		want, error := join(x.l)
		if error != x.e {
			t.Errorf("case %d: the reference has the error %d", i, error)
		}
		got, e := lexer.Join(x.l)
		if got != want || e != x.e {
			t.Errorf("case %d: %.100q beside the error %d, want %.100q beside %d", i, got, e, want, x.e)
		}
	}
}

func TestNormal(t *testing.T) {
	for _, text := range texts() {
		l, place, error := scan(text)
		want := ""
		if error == api.OK {
			want, error = join(l)
		}
		got, at, e := lexer.Normal(text)
		if got != want || at != place || e != error {
			t.Errorf("Normal %.200q: %.200q, %d, %d; want %.200q, %d, %d", text, got, at, e, want, place, error)
		}
	}
	for _, x := range []struct{ text, want string }{{"", ""}, {"   ", ""}, {"a2 -3", "a 2-3"}, {"  a   b ", "a b"}, {"( 1 , 2 )", "(1,2)"}, {"1 2 3", "1 2 3"}, {"x2y3", "x 2 y 3"}, {"a = - 12", "a=-12"}} {
		got, at, e := lexer.Normal(x.text)
		if got != x.want || at != 0 || e != api.OK {
			t.Errorf("Normal %q: %q, and the error %d at %d", x.text, got, e, at)
		}
	}
	for _, x := range []struct {
		text string
		size int
		e    api.Errno
	}{{strings.Repeat("x2", 1024), api.MaxText - 1, api.OK}, {strings.Repeat("x2", 1024) + ";", api.MaxText, api.OK}, {strings.Repeat("x2", 1024) + "y", 0, api.ErrLong}, {strings.Repeat("x2", 1024) + ".;", 0, api.ErrLong}, {strings.Repeat("x2", 2048), 0, api.ErrLong}} {
		got, at, e := lexer.Normal(x.text)
		if len(got) != x.size || at != 0 || e != x.e {
			t.Errorf("Normal: %d bytes, and the error %d at %d; want %d and %d", len(got), e, at, x.size, x.e)
		}
	}
}
