package lexer_test

import (
	"math"
	"math/rand"
	"slices"
	"strings"
	"testing"

	"sandpile/api"
	"sandpile/lexer"
)

// Tests of P7.3, and of P1 for package lexer.

func TestNormalTexts(t *testing.T) {
	normals := 0
	for _, text := range texts() {
		normal, _, e := lexer.Normal(text)
		if e != api.OK {
			continue
		}
		normals++
		l := tokens(t, text)
		if again := tokens(t, normal); !slices.Equal(bare(again), bare(l)) {
			t.Errorf("%.100q has other tokens than its normal text %.100q", text, normal)
		}
		if again, _, e := lexer.Normal(normal); again != normal || e != api.OK {
			t.Errorf("%.100q is no normal text of its own: %.100q beside the error %d", normal, again, e)
		}
		for _, l := range [][]api.Token{l, bare(l)} {
			if joined, e := lexer.Join(l); joined != normal || e != api.OK {
				t.Errorf("%.100q joined, and %.100q normal, beside the error %d", joined, normal, e)
			}
		}
	}
	if normals < 1000 {
		t.Errorf("only %d texts can be read", normals)
	}
}

func TestOffsets(t *testing.T) {
	for _, text := range texts() {
		l, at, e := lexer.Scan(text)
		if e != api.OK {
			continue
		}
		if at != 0 {
			t.Errorf("%.100q has the offset %d", text, at)
		}
		behind := 0
		for i, token := range l {
			if token.At < behind || !strings.HasPrefix(text[token.At:], token.Text) || strings.Trim(text[behind:token.At], " ") != "" {
				t.Errorf("%.100q does not have the token %v", text, token)
			}
			if (token.Kind == api.TokenEnd) != (i == len(l)-1) || (token.Kind == api.TokenEnd) != (token.Text == "") {
				t.Errorf("%.100q has the token %v at %d", text, token, i)
			}
			behind = token.At + len(token.Text)
		}
		if behind != len(text) {
			t.Errorf("%.100q ends at %d", text, behind)
		}
	}
}

func TestMoreBlanks(t *testing.T) {
	r := rand.New(rand.NewSource(10))
	for _, text := range texts() {
		l, _, e := lexer.Scan(text)
		if e != api.OK || len(text) > 400 {
			continue
		}
		// Some blanks are added before tokens, and move the offsets.
		more, behind := "", 0
		want := slices.Clone(l)
		for i, token := range l {
			more += text[behind:token.At] + strings.Repeat(" ", r.Intn(3))
			want[i].At = len(more)
			more += token.Text
			behind = token.At + len(token.Text)
		}
		want[len(want)-1].At = len(more)
		if got := tokens(t, more); !slices.Equal(got, want) {
			t.Errorf("%.100q has the tokens %v", more, got)
		}
		if a, b := normal(t, text), normal(t, more); a != b {
			t.Errorf("%.100q and %.100q have other normal texts", text, more)
		}
	}
}

// normal returns the normal text of a text that must have one.
func normal(t *testing.T, text string) string {
	t.Helper()
	s, _, e := lexer.Normal(text)
	if e != api.OK {
		t.Fatalf("%.100q has the error %d", text, e)
	}
	return s
}

func TestBrackets(t *testing.T) {
	r := rand.New(rand.NewSource(11))
	closed := 0
	for range 2000 {
		var text strings.Builder
		for range r.Intn(20) {
			text.WriteByte("()()[][]{}a,"[r.Intn(12)])
		}
		l := tokens(t, text.String())
		for i := range l {
			j, e := lexer.Close(l, i)
			if e != api.OK {
				continue
			}
			closed++
			for k := i + 1; k < j; k++ {
				if !strings.Contains("([{", l[k].Text) || l[k].Text == "" {
					continue
				}
				if m, e := lexer.Close(l, k); e != api.OK || m <= k || m >= j {
					t.Errorf("%q: %d is closed by %d, but %d between by %d beside the error %d", text.String(), i, j, k, m, e)
				}
			}
			if pair := l[i].Text + l[j].Text; pair != "()" && pair != "[]" && pair != "{}" {
				t.Errorf("%q: %d is closed by %d", text.String(), i, j)
			}
		}
	}
	if closed < 500 {
		t.Errorf("only %d brackets are closed", closed)
	}
}

// TestSignedNumbers reads the numbers from texts that are made of them.
func TestSignedNumbers(t *testing.T) {
	r := rand.New(rand.NewSource(12))
	for range 300 {
		text, want := "", []int{}
		for range r.Intn(8) {
			n, s := numberOfText(r)
			text += s + ","
			want = append(want, n)
		}
		l := tokens(t, text)
		at := 0
		for _, n := range want {
			got, next, e := lexer.Signed(l, at)
			if got != n || e != api.OK || l[next].Text != "," {
				t.Fatalf("%q: %d and %d beside the error %d", text, got, next, e)
			}
			at = next + 1
		}
		if l[at].Kind != api.TokenEnd {
			t.Errorf("%q: %v is left", text, l[at:])
		}
	}
}

// numberOfText returns a number and a text for it.
func numberOfText(r *rand.Rand) (int, string) {
	n, s := 0, ""
	for range 1 + r.Intn(12) {
		d := r.Intn(10)
		if n == 0 {
			s = ""
		}
		n, s = n*10+d, s+string(rune('0'+d))
	}
	if n > 0 && r.Intn(2) == 0 {
		return -n, "-" + strings.Repeat(" ", r.Intn(3)) + s
	}
	return n, s
}

// TestTotal calls every function with all kinds of arguments: a panic fails the test, and beside an error everything is zero, but for the offset of Scan and Normal.
func TestTotal(t *testing.T) {
	r := rand.New(rand.NewSource(13))
	bytes := func(n int) string {
		s := make([]byte, n)
		r.Read(s)
		return string(s)
	}
	strange := append(texts(), strange()...)
	for _, n := range []int{1, 2, 3, 10, 100, 4096, 4097, 20000} {
		strange = append(strange, bytes(n), strings.Repeat("a", n), strings.Repeat("0", n), strings.Repeat("7", n), strings.Repeat("é", n))
	}
	for _, s := range strange {
		if l, at, e := lexer.Scan(s); e != api.OK && (len(l) > 0 || at < 0 || at > 0 && at >= len(s)) || e == api.OK && (len(l) == 0 || at != 0) {
			t.Errorf("Scan %.100q: %d tokens, %d, %d", s, len(l), at, e)
		}
		if n, at, e := lexer.Normal(s); e != api.OK && (n != "" || at < 0 || at > 0 && at >= len(s)) || e == api.OK && at != 0 {
			t.Errorf("Normal %.100q: %.100q, %d, %d", s, n, at, e)
		}
		lexer.Word(s)
		if n, e := lexer.Natural(s); e != api.OK && n != 0 || n < 0 || n > 1<<40 {
			t.Errorf("Natural %.100q: %d beside the error %d", s, n, e)
		}
	}
	for range 3000 {
		var l []api.Token
		for range r.Intn(6) {
			l = append(l, api.Token{Kind: r.Intn(7) - 1, Text: strange[r.Intn(len(strange))], At: r.Int()})
		}
		if s, e := lexer.Join(l); e != api.OK && s != "" || len(s) > api.MaxText {
			t.Errorf("Join %.100v: %.100q beside the error %d", l, s, e)
		}
		for _, at := range []int{math.MinInt, -1, 0, 1, 2, 3, 4, 5, 6, math.MaxInt} {
			if n, k, e := lexer.Signed(l, at); e != api.OK && (n != 0 || k != 0) || e == api.OK && (k <= at || k > len(l)) {
				t.Errorf("Signed %.100v at %d: %d, %d, %d", l, at, n, k, e)
			}
			if k, e := lexer.Close(l, at); e != api.OK && k != 0 || e == api.OK && (k <= at || k >= len(l)) {
				t.Errorf("Close %.100v at %d: %d, %d", l, at, k, e)
			}
		}
	}
}

// TestMemory changes results, and looks at the arguments and at other results.
func TestMemory(t *testing.T) {
	right := at(list(sign("("), word("a"), number("5"), sign("-"), number("6"), sign(")"), end), 0, 1, 2, 3, 4, 5, 6)
	// The argument has spare capacity, in which nothing may be written either.
	given := append(make([]api.Token, 0, 20), right...)
	lexer.Join(given)
	for i := range given {
		lexer.Signed(given, i)
		lexer.Close(given, i)
	}
	if !slices.Equal(given, right) || !slices.Equal(given[len(given):20], make([]api.Token, 20-len(given))) {
		t.Errorf("the argument is now %v", given[:20])
	}
	first, second := tokens(t, "(a5-6)"), tokens(t, "(a5-6)")
	for i := range first {
		first[i] = api.Token{Kind: 9, Text: "x"}
	}
	_ = append(first, number("8"))
	if !slices.Equal(second, right) || !slices.Equal(tokens(t, "(a5-6)"), right) {
		t.Errorf("%v changes with another result", second)
	}
}
