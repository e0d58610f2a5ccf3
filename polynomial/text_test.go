package polynomial_test

import (
	"math/rand"
	"regexp"
	"slices"
	"strconv"
	"strings"
	"testing"

	"sandpile/api"
	"sandpile/polynomial"
)

// Tests of P6.1 for texts.

// agreesText reports a text that is not the one wanted.
func agreesText(t *testing.T, got string, e api.Errno, want string, error api.Errno) {
	t.Helper()
	if got != want || e != error {
		t.Errorf("Text: %.300q, %d instead of %.300q, %d", got, e, want, error)
	}
}

func TestText(t *testing.T) {
	for want, p := range map[string]api.Poly{
		"0": nil, "1": poly(term("1", 0, 0)), "-1": poly(term("-1", 0, 0)), "12": poly(term("12", 0, 0)), "-10": poly(term("-10", 0, 0)),
		"X": poly(term("1", 1, 0)), "-X": poly(term("-1", 1, 0)), "Y": poly(term("1", 0, 1)), "-Y": poly(term("-1", 0, 1)), "X Y": poly(term("1", 1, 1)), "-X Y": poly(term("-1", 1, 1)), "2 X": poly(term("2", 1, 0)), "-2 Y": poly(term("-2", 0, 1)), "11 X Y": poly(term("11", 1, 1)),
		"X^2": poly(term("1", 2, 0)), "Y^10": poly(term("1", 0, 10)), "X^256 Y^256": poly(term("1", 256, 256)), "-X^2 Y": poly(term("-1", 2, 1)), "X Y^2": poly(term("1", 1, 2)), "5 X^3 Y^4": poly(term("5", 3, 4)),
		"-3 X^2 Y + 1": poly(term("-3", 2, 1), term("1", 0, 0)), "X^2 - Y^2": poly(term("1", 2, 0), term("-1", 0, 2)), "X^2 + X + Y": poly(term("1", 2, 0), term("1", 1, 0), term("1", 0, 1)), "X - 1": poly(term("1", 1, 0), term("-1", 0, 0)), "-X - Y - 1": poly(term("-1", 1, 0), term("-1", 0, 1), term("-1", 0, 0)),
		"X^2 + 2 X Y - 2 X + Y^2 - 2 Y + 1": poly(term("1", 2, 0), term("2", 1, 1), term("-2", 1, 0), term("1", 0, 2), term("-2", 0, 1), term("1", 0, 0)),
		string(longest) + " X":              poly(term(longest, 1, 0)), "Y - " + string(longest): poly(term("1", 0, 1), term("-"+longest, 0, 0)),
	} {
		text, e := polynomial.Text(p)
		agreesText(t, text, e, want, api.OK)
		back, e := polynomial.Parse(want)
		agrees(t, "Parse "+want, back, e, p, api.OK)
	}
	for _, p := range samples() {
		text, e := polynomial.Text(p)
		want, error := written(p), api.OK
		if len(want) > api.MaxText {
			want, error = "", api.ErrLong
		}
		agreesText(t, text, e, want, error)
		if e == api.OK {
			back, e := polynomial.Parse(text)
			agrees(t, "Parse "+text, back, e, p, api.OK)
		}
	}
	for _, x := range wrong() {
		text, e := polynomial.Text(x.p)
		agreesText(t, text, e, "", x.e)
	}
}

// written writes the text of a polynomial with everything that may be left out, and leaves this out then.
func written(p api.Poly) string {
	s := ""
	for _, u := range p {
		sign, size := " + ", string(u.Coef)
		if size[0] == '-' {
			sign, size = " - ", size[1:]
		}
		s += sign + size + " X^" + strconv.Itoa(u.X) + " Y^" + strconv.Itoa(u.Y) + ";"
	}
	s = strings.NewReplacer(" X^0 ", " ", " X^1 ", " X ").Replace(s)
	s = strings.NewReplacer(" Y^0;", ";", " Y^1;", " Y;").Replace(s)
	s = strings.NewReplacer(" 1 X", " X", " 1 Y", " Y").Replace(s)
	s = strings.ReplaceAll(s, ";", "")
	switch {
	case s == "":
		return "0"
	case s[1] == '-':
		return "-" + s[3:]
	}
	return s[3:]
}

// long returns a polynomial with four terms and a text of n bytes.
func long(n int) api.Poly {
	p := poly(term(longest, 9, 0), term("-"+longest, 8, 0), term(longest, 0, 7))
	return append(p, term("-"+longest[:n-3*(api.MaxLong+4)-9], 0, 0))
}

func TestLongTexts(t *testing.T) {
	for _, n := range []int{api.MaxText - 1, api.MaxText, api.MaxText + 1, api.MaxText + 2} {
		p := long(n)
		want := written(p)
		if len(want) != n {
			t.Fatalf("%d bytes instead of %d", len(want), n)
		}
		text, e := polynomial.Text(p)
		back, f := polynomial.Parse(want)
		if n > api.MaxText {
			agreesText(t, text, e, "", api.ErrLong)
			agrees(t, "Parse", back, f, nil, api.ErrLong)
			continue
		}
		agreesText(t, text, e, want, api.OK)
		agrees(t, "Parse", back, f, p, api.OK)
	}
	for _, p := range []api.Poly{full(longest), full("1"), block("-1", 0, 31, 0, 31)} {
		text, e := polynomial.Text(p)
		agreesText(t, text, e, "", api.ErrLong)
	}
	// The length comes before the form.
	for s, want := range map[string]api.Errno{
		strings.Repeat("x", api.MaxText+1): api.ErrLong, strings.Repeat("x", api.MaxText): api.ErrForm, strings.Repeat(" ", api.MaxText+1): api.ErrLong, strings.Repeat("\x00", api.MaxText): api.ErrForm, strings.Repeat("1", api.MaxText+1): api.ErrLong, strings.Repeat("1", api.MaxText): api.ErrForm, strings.Repeat("0", 1<<20): api.ErrLong,
		"X" + strings.Repeat(" + X", 1023): api.ErrForm, strings.Repeat(" + ", 1365): api.ErrForm, "1" + strings.Repeat(" + 1", 1023): api.ErrForm, strings.Repeat("X", api.MaxText): api.ErrForm, strings.Repeat("-", api.MaxText): api.ErrForm, "X^" + strings.Repeat("0", 4000) + "2": api.ErrForm,
	} {
		p, e := polynomial.Parse(s)
		agrees(t, "Parse", p, e, nil, want)
	}
}

func TestNearlyTexts(t *testing.T) {
	for _, s := range []string{
		"", " ", "-", "+", "^", "--1", "- 1", "-0", "00", "01", "+1", "+X", "1.0", "1/2", "1e3", "٣", "٣ X",
		"1 X", "-1 X", "1 Y", "X + 1 Y", "1X", "2X", "2  X", "2 X ", " 2 X", "02 X", "0 X", "-0 X", "2 3", "2 3 X", "X 2", "2 X 3", "2*X", "2\tX", "X\n", "\nX", "X\x00", "X\u00a0+ 1", "X − 1",
		"X+1", "X +1", "X+ 1", "X  + 1", "X +  1", "X + ", "X +", "X ", "X - ", " + X", " - X", "+ X", "- X", "X + + 1", "X - -1", "X + -1", "X -1", "X + 0", "0 + X", "0 + 0", "X - 0", "X + 00",
		"x", "y", "Z", "XY", "YX", "Y X", "X X", "X  Y", "X Y Z", "X*Y", "X Y X", "X^2Y", "2 X^2Y", "2XY", "Y^2 X",
		"X^1", "X^0", "Y^0", "Y^1", "X^", "X^ 2", "X ^2", "X^02", "X^-1", "X^+2", "X^2^2", "X^X", "X^257", "Y^257", "X^999", "X^1000", "X^256 Y^257", "X^9223372036854775808", "X^18446744073709551618", "X^٣", "X**2", "X²", "^2", "2^2",
		"Y + X", "1 + X", "X + X", "X - X", "1 + 1", "1 - 1", "X + X^2", "Y + Y^2", "X + X Y", "X^2 Y + X^2 Y^2", "X + Y + X", "X + 1 + Y", "X^9 + X^10",
		string(beyond), "-" + string(beyond), string(beyond) + " X", "X - " + string(beyond),
	} {
		p, e := polynomial.Parse(s)
		agrees(t, "Parse "+s, p, e, nil, api.ErrForm)
	}
}

var (
	signs = regexp.MustCompile(` [+-] `)
	// one matches a term; a blank that is wrong and the empty term match, too.
	one = regexp.MustCompile(`^(?:([1-9][0-9]*)|(?:(?:([2-9]|[1-9][0-9]+) )?(X(?:\^([2-9]|[1-9][0-9]+))?)?( ?)(Y(?:\^([2-9]|[1-9][0-9]+))?)?))$`)
)

// isText follows the definition of a text without the functions of the package.
func isText(s string) bool {
	if s == "0" {
		return true
	}
	last := [2]int{api.MaxList + 1, 0}
	for _, part := range signs.Split(strings.TrimPrefix(s, "-"), -1) {
		m := one.FindStringSubmatch(part)
		if m == nil || part == "" || len(m[1]+m[2]) > api.MaxLong || (m[5] == " ") != (m[3] != "" && m[6] != "") || m[1]+m[3]+m[6] == "" {
			return false
		}
		at := [2]int{exponent(m[3], m[4]), exponent(m[6], m[7])}
		if at[0] > api.MaxList || at[1] > api.MaxList || slices.Compare(at[:], last[:]) >= 0 {
			return false
		}
		last = at
	}
	return true
}

// exponent returns the exponent of a part of a text that matches.
func exponent(part, digits string) int {
	switch {
	case part == "":
		return 0
	case digits == "":
		return 1
	}
	n, err := strconv.Atoi(digits)
	if err != nil {
		return api.MaxList + 1
	}
	return n
}

// TestChangedTexts changes a few bytes of texts: they are read exactly if they are texts still.
func TestChangedTexts(t *testing.T) {
	r := rand.New(rand.NewSource(2))
	read := map[bool]int{}
	for range 100000 {
		s, _ := polynomial.Text(random(r, r.Intn(4), r.Intn(5)+1, r.Intn(2)+1))
		for range r.Intn(3) {
			s = changed(r, s)
		}
		p, e := polynomial.Parse(s)
		if is := isText(s); is != (e == api.OK) || !is && (e != api.ErrForm || len(p) > 0) {
			t.Errorf("Parse(%q) = %v, %d", s, p, e)
		} else if text, f := polynomial.Text(p); is && (text != s || f != api.OK) {
			t.Errorf("Parse(%q) = %v, whose text is %q", s, p, text)
		}
		read[e == api.OK]++
	}
	if read[true] < 5000 || read[false] < 5000 {
		t.Errorf("%d texts are read, %d are not", read[true], read[false])
	}
}

// changed leaves out, doubles, inserts or replaces some bytes.
func changed(r *rand.Rand, s string) string {
	i := r.Intn(len(s) + 1)
	k := min(i+r.Intn(3), len(s))
	with := []string{"", s[i:k] + s[i:k], " ", "X", "Y", "^", "2", "1", "0", "-", " + ", " - ", "+", "X^2", " Y"}
	return s[:i] + with[r.Intn(len(with))] + s[k:]
}
