package lexer_test

import (
	"math"
	"math/big"
	"math/rand"
	"strconv"
	"strings"
	"testing"

	"sandpile/api"
	"sandpile/lexer"
)

// Tests of P7.2.

// strange returns texts, of which some are words, and some numbers.
func strange() []string {
	l := []string{"", " ", "a", "z", "ab", "a b", " a", "a ", "aB", "A", "a1", "1a", "é", "aé", "\xff", "a\xff", "`", "{", "@", "/", ":", "-", "--1", "-1", "+1", "1.0", "1_000", "0x10", "1e3", "٣", "a-b", longWord, longWord + "q", longWord + "Q", longWord + " ", " " + longWord, strings.Repeat("q", 5000), strings.Repeat("q", 5000) + "Q"}
	for _, n := range []int{0, 1, 2, 9, 10, 99, 100, 1 << 20, 1 << 31, 1 << 32, 1<<40 - 1, 1 << 40, 1<<40 + 1, 1099511627780, 9999999999999, 10000000000000, 1 << 50, math.MaxInt - 1, math.MaxInt} {
		s := strconv.Itoa(n)
		l = append(l, s, "0"+s, "00"+s, "-"+s, s+" ", " "+s, s+"a")
	}
	return append(l, "9223372036854775808", "18446744073709551615", "18446744073709551616", "18446744073709551617", "36893488147419103233", "99999999999999999999", longNumber, longNumber+"0", "0"+longNumber, "0"+longNumber[1:], longNumber[:500]+"x", longNumber+"x", "x"+longNumber, strings.Repeat("0", 5000), strings.Repeat("9", 5000), strings.Repeat("9", 5000)+"?", "00", "000")
}

// wordError follows the definition of a word.
func wordError(s string) api.Errno {
	switch {
	case !letters.MatchString(s):
		return api.ErrForm
	case len(s) > api.MaxName:
		return api.ErrLong
	}
	return api.OK
}

// numberOf follows the definition of a natural number.
func numberOf(s string) (int, api.Errno) {
	if !natural.MatchString(s) {
		return 0, api.ErrForm
	}
	n, _ := new(big.Int).SetString(s, 10)
	if n.Cmp(big.NewInt(1<<40)) > 0 {
		return 0, api.ErrLarge
	}
	return int(n.Int64()), api.OK
}

func TestWord(t *testing.T) {
	for _, s := range strange() {
		if e := lexer.Word(s); e != wordError(s) {
			t.Errorf("Word %.100q: %d", s, e)
		}
	}
	for _, x := range []struct {
		s string
		e api.Errno
	}{{"a", api.OK}, {"abcxyz", api.OK}, {longWord, api.OK}, {longWord + "q", api.ErrLong}, {longWord + longWord, api.ErrLong}, {longWord + "7", api.ErrForm}, {longWord + longWord + ";", api.ErrForm}, {"", api.ErrForm}, {"a b", api.ErrForm}, {"Ab", api.ErrForm}, {"x2", api.ErrForm}, {"7", api.ErrForm}, {"é", api.ErrForm}} {
		if e := lexer.Word(x.s); e != x.e {
			t.Errorf("Word %q: %d", x.s, e)
		}
	}
	for b := range 256 {
		for _, s := range []string{string([]byte{byte(b)}), "a" + string([]byte{byte(b)}), string([]byte{byte(b)}) + "z"} {
			if e := lexer.Word(s); e != wordError(s) {
				t.Errorf("Word %q: %d", s, e)
			}
		}
	}
}

func TestNatural(t *testing.T) {
	for _, s := range strange() {
		want, error := numberOf(s)
		if n, e := lexer.Natural(s); n != want || e != error {
			t.Errorf("Natural %.100q: %d beside the error %d, want %d beside %d", s, n, e, want, error)
		}
	}
	for _, x := range []struct {
		s    string
		want int
		e    api.Errno
	}{
		{"0", 0, api.OK}, {"7", 7, api.OK}, {"120", 120, api.OK}, {"1099511627775", 1<<40 - 1, api.OK}, {"1099511627776", 1 << 40, api.OK}, {"1099511627777", 0, api.ErrLarge}, {"1099511627780", 0, api.ErrLarge}, {"2000000000000", 0, api.ErrLarge}, {"9000000000000", 0, api.ErrLarge}, {"18446744073709551617", 0, api.ErrLarge}, {longNumber, 0, api.ErrLarge}, {longNumber + "0", 0, api.ErrLarge}, {strings.Repeat("8", 9999), 0, api.ErrLarge},
		{"", 0, api.ErrForm}, {"00", 0, api.ErrForm}, {"01", 0, api.ErrForm}, {"-1", 0, api.ErrForm}, {"+1", 0, api.ErrForm}, {" 1", 0, api.ErrForm}, {"1 ", 0, api.ErrForm}, {"a", 0, api.ErrForm}, {"1a", 0, api.ErrForm}, {"0" + longNumber, 0, api.ErrForm}, {longNumber + "x", 0, api.ErrForm}, {"99999999999999x", 0, api.ErrForm}, {strings.Repeat("0", 9999), 0, api.ErrForm},
	} {
		if n, e := lexer.Natural(x.s); n != x.want || e != x.e {
			t.Errorf("Natural %.100q: %d beside the error %d", x.s, n, e)
		}
	}
	r := rand.New(rand.NewSource(8))
	for range 3000 {
		n := r.Int63n(1 << (1 + r.Intn(42)))
		s := strconv.FormatInt(n, 10)
		want, error := numberOf(s)
		if got, e := lexer.Natural(s); got != want || e != error {
			t.Errorf("Natural %q: %d beside the error %d", s, got, e)
		}
	}
}

func TestSigned(t *testing.T) {
	minus, zero := sign("-"), number("0")
	for i, x := range []struct {
		l        []api.Token
		at, n, k int
		e        api.Errno
	}{
		{tokens(t, "a = - 12"), 2, -12, 4, api.OK}, {tokens(t, "a = - 12"), 3, 12, 4, api.OK}, {tokens(t, "- 0"), 0, 0, 0, api.ErrSyntax}, {tokens(t, "- 0"), 1, 0, 2, api.OK}, {tokens(t, "-5"), 0, -5, 2, api.OK}, {tokens(t, "- - 5"), 0, 0, 0, api.ErrSyntax}, {tokens(t, "- - 5"), 1, -5, 3, api.OK}, {tokens(t, "+5"), 0, 0, 0, api.ErrSyntax}, {tokens(t, "-x"), 0, 0, 0, api.ErrSyntax}, {tokens(t, "x"), 0, 0, 0, api.ErrSyntax}, {tokens(t, "5 6"), 0, 5, 1, api.OK}, {tokens(t, "5 6"), 1, 6, 2, api.OK}, {tokens(t, "5 6"), 2, 0, 0, api.ErrSyntax}, {tokens(t, "-"), 0, 0, 0, api.ErrSyntax},
		// Indexes at their limits.
		{tokens(t, "5 6"), 3, 0, 0, api.ErrRange}, {tokens(t, "5 6"), -1, 0, 0, api.ErrRange}, {tokens(t, "5"), math.MinInt, 0, 0, api.ErrRange}, {tokens(t, "5"), math.MaxInt, 0, 0, api.ErrRange}, {nil, 0, 0, 0, api.ErrRange}, {nil, -1, 0, 0, api.ErrRange}, {list(number("5")), 0, 5, 1, api.OK}, {list(number("5")), 1, 0, 0, api.ErrRange}, {list(minus), 0, 0, 0, api.ErrSyntax}, {list(number("5"), minus), 1, 0, 0, api.ErrSyntax}, {list(minus, number("5")), 0, -5, 2, api.OK},
		// Numbers around 2^40.
		{tokens(t, "1099511627776"), 0, 1 << 40, 1, api.OK}, {tokens(t, "-1099511627776"), 0, -1 << 40, 2, api.OK}, {tokens(t, "1099511627777"), 0, 0, 0, api.ErrLarge}, {tokens(t, "-1099511627777"), 0, 0, 0, api.ErrLarge}, {tokens(t, longNumber), 0, 0, 0, api.ErrLarge}, {tokens(t, "-"+longNumber), 0, 0, 0, api.ErrLarge},
		// Tokens that no text has.
		{list(number("")), 0, 0, 0, api.ErrForm}, {list(number("x")), 0, 0, 0, api.ErrForm}, {list(number("-5")), 0, 0, 0, api.ErrForm}, {list(number("05")), 0, 0, 0, api.ErrForm}, {list(minus, number("05")), 0, 0, 0, api.ErrForm}, {list(minus, number("00")), 0, 0, 0, api.ErrForm}, {list(minus, number("")), 0, 0, 0, api.ErrForm}, {list(minus, number("-0")), 0, 0, 0, api.ErrForm}, {list(number(longNumber + "0")), 0, 0, 0, api.ErrLarge}, {list(minus, number("0"+longNumber)), 0, 0, 0, api.ErrForm}, {list(minus, zero), 0, 0, 0, api.ErrSyntax}, {list(minus, end), 0, 0, 0, api.ErrSyntax},
		{list(word("5")), 0, 0, 0, api.ErrSyntax}, {list(sign("5")), 0, 0, 0, api.ErrSyntax}, {list(api.Token{Kind: 7, Text: "5"}), 0, 0, 0, api.ErrSyntax}, {list(api.Token{Kind: api.TokenEnd, Text: "5"}), 0, 0, 0, api.ErrSyntax}, {list(word("-"), number("5")), 0, 0, 0, api.ErrSyntax}, {list(number("-"), number("5")), 0, 0, 0, api.ErrForm}, {list(api.Token{Kind: -1, Text: "-"}, number("5")), 0, 0, 0, api.ErrSyntax}, {list(minus, word("5")), 0, 0, 0, api.ErrSyntax}, {list(sign("--"), number("5")), 0, 0, 0, api.ErrSyntax}, {list(sign("-5")), 0, 0, 0, api.ErrSyntax}, {list(sign(""), number("5")), 0, 0, 0, api.ErrSyntax},
		// What is around does not matter.
		{list(end, minus, number("8"), api.Token{Kind: 9}), 1, -8, 3, api.OK}, {at(list(minus, number("8"), word("")), 7, 3, -1), 0, -8, 2, api.OK},
	} {
		n, k, e := lexer.Signed(x.l, x.at)
		if n != x.n || k != x.k || e != x.e {
			t.Errorf("case %d: %d, %d, %d; want %d, %d, %d", i, n, k, e, x.n, x.k, x.e)
		}
	}
}

// closer follows the definition of the bracket that closes the one with an index: all brackets between can be taken away in pairs.
func closer(l []api.Token, at int) (int, api.Errno) {
	if at < 0 || at >= len(l) {
		return 0, api.ErrRange
	}
	pairs := []string{"()", "[]", "{}"}
	bracket := func(t api.Token) string {
		if t.Kind == api.TokenSign && len(t.Text) == 1 && strings.Contains("()[]{}", t.Text) {
			return t.Text
		}
		return ""
	}
	opening := bracket(l[at])
	if opening == "" || strings.Contains(")]}", opening) {
		return 0, api.ErrSyntax
	}
	between := ""
	for j := at + 1; j < len(l); j++ {
		b := bracket(l[j])
		for _, pair := range pairs {
			if between == "" && opening+b == pair {
				return j, api.OK
			}
		}
		between += b
		for range len(between) {
			for _, pair := range pairs {
				between = strings.ReplaceAll(between, pair, "")
			}
		}
	}
	return 0, api.ErrForm
}

func TestClose(t *testing.T) {
	for _, x := range []struct {
		text     string
		at, want int
		e        api.Errno
	}{
		{"( a [ b ] ) c", 0, 5, api.OK}, {"( a [ b ] ) c", 2, 4, api.OK}, {"( a [ b ] ) c", 1, 0, api.ErrSyntax}, {"( a [ b ] ) c", 4, 0, api.ErrSyntax}, {"( a [ b ] ) c", 5, 0, api.ErrSyntax}, {"( a [ b ] ) c", 6, 0, api.ErrSyntax}, {"( a [ b ] ) c", 7, 0, api.ErrSyntax}, {"( a [ b ] ) c", 8, 0, api.ErrRange}, {"( a [ b ] ) c", -1, 0, api.ErrRange}, {"( a [ b ] ) c", math.MinInt, 0, api.ErrRange}, {"( a [ b ] ) c", math.MaxInt, 0, api.ErrRange},
		{"( ]", 0, 0, api.ErrForm}, {"( ] )", 0, 0, api.ErrForm}, {"( ) ]", 0, 1, api.OK}, {"] ( )", 1, 2, api.OK}, {"(", 0, 0, api.ErrForm}, {"( (", 0, 0, api.ErrForm}, {"( ( )", 0, 0, api.ErrForm}, {"( ( )", 1, 2, api.OK}, {"()", 0, 1, api.OK}, {"[]", 0, 1, api.OK}, {"{}", 0, 1, api.OK}, {"(}", 0, 0, api.ErrForm}, {"[)", 0, 0, api.ErrForm}, {"{]", 0, 0, api.ErrForm}, {"()()", 0, 1, api.OK}, {"()()", 2, 3, api.OK}, {"(())", 0, 3, api.OK}, {"([)]", 0, 0, api.ErrForm}, {"([)]", 1, 0, api.ErrForm}, {"([)])", 0, 0, api.ErrForm}, {"([])", 0, 3, api.OK}, {"({[]}())[", 0, 7, api.OK}, {"({[]}())[", 1, 4, api.OK}, {"({[]}())[", 8, 0, api.ErrForm}, {"< >", 0, 0, api.ErrSyntax}, {"", 0, 0, api.ErrSyntax}, {"", 1, 0, api.ErrRange},
		{"{(}", 0, 0, api.ErrForm}, {"{(})", 1, 0, api.ErrForm}, {"(){", 2, 0, api.ErrForm}, {"(-[5,a]<;)", 0, 9, api.OK},
	} {
		got, e := lexer.Close(tokens(t, x.text), x.at)
		if got != x.want || e != x.e {
			t.Errorf("Close %q at %d: %d beside the error %d, want %d beside %d", x.text, x.at, got, e, x.want, x.e)
		}
	}
	if got, e := lexer.Close(nil, 0); got != 0 || e != api.ErrRange {
		t.Errorf("Close of no tokens: %d beside the error %d", got, e)
	}
}

func TestCloseOfAnyTokens(t *testing.T) {
	for i, x := range []struct {
		l        []api.Token
		at, want int
		e        api.Errno
	}{
		{list(sign("("), sign(")")), 0, 1, api.OK}, {list(sign("(")), 0, 0, api.ErrForm}, {list(word("("), sign(")")), 0, 0, api.ErrSyntax}, {list(number("("), sign(")")), 0, 0, api.ErrSyntax}, {list(api.Token{Kind: api.TokenEnd, Text: "("}, sign(")")), 0, 0, api.ErrSyntax}, {list(sign("("), word(")"), sign(")")), 0, 2, api.OK}, {list(sign("("), word("]"), sign(")")), 0, 2, api.OK}, {list(sign("("), number("["), sign(")")), 0, 2, api.OK}, {list(sign("("), api.Token{Kind: 9, Text: ")"}), 0, 0, api.ErrForm}, {list(sign("("), end, sign(")")), 0, 2, api.OK}, {list(sign("()"), sign(")")), 0, 0, api.ErrSyntax}, {list(sign("("), sign("])"), sign(")")), 0, 2, api.OK}, {list(sign("("), sign("[]"), sign(")")), 0, 2, api.OK}, {list(sign("("), sign(""), sign(")")), 0, 2, api.OK}, {list(sign("")), 0, 0, api.ErrSyntax},
	} {
		got, e := lexer.Close(x.l, x.at)
		if got != x.want || e != x.e {
			t.Errorf("case %d: %d beside the error %d, want %d beside %d", i, got, e, x.want, x.e)
		}
	}
	r := rand.New(rand.NewSource(9))
	for range 3000 {
		var l []api.Token
		for range r.Intn(14) {
			t := sign(string("()()[]{};"[r.Intn(9)]))
			if r.Intn(12) == 0 {
				t.Kind = r.Intn(6) - 1
			}
			l = append(l, t)
		}
		for at := -1; at <= len(l); at++ {
			want, error := closer(l, at)
			if got, e := lexer.Close(l, at); got != want || e != error {
				t.Fatalf("Close %v at %d: %d beside the error %d, want %d beside %d", l, at, got, e, want, error)
			}
		}
	}
	// Many brackets, each one in the one before.
	deep := []api.Token{}
	for range 5000 {
		deep = append(deep, sign("{"))
	}
	for range 5000 {
		deep = append(deep, sign("}"))
	}
	for _, at := range []int{0, 1, 777, 4999} {
		if got, e := lexer.Close(deep, at); got != 9999-at || e != api.OK {
			t.Errorf("Close at %d: %d beside the error %d", at, got, e)
		}
	}
}
