package integer_test

import (
	"math"
	"math/big"
	"slices"
	"strings"
	"testing"

	"sandpile/api"
	"sandpile/integer"
)

// Tests of P1.1.

func TestCheck(t *testing.T) {
	for _, a := range append(samples(), longest, "-"+longest, "1"+longest[1:]) {
		if e := integer.Check(a); e != api.OK {
			t.Errorf("Check(%q) = %d", a, e)
		}
	}
	for _, a := range []api.Int{"", "-", "--1", "+1", "007", "00", "-0", "-01", " 1", "1 ", "1-", "1.0", "1e3", "0x1", "1_000", "12a4", "1\x00", "\xff", "٣", "１", "−1", "0" + longest, "-0" + longest, longest + "x"} {
		if e := integer.Check(a); e != api.ErrForm {
			t.Errorf("Check(%q) = %d instead of ErrForm", a, e)
		}
	}
	for _, a := range []api.Int{longest + "0", "-" + longest + "0", "1" + api.Int(strings.Repeat("0", api.MaxLong))} {
		if e := integer.Check(a); e != api.ErrLarge {
			t.Errorf("Check of %d bytes = %d instead of ErrLarge", len(a), e)
		}
	}
}

func TestOfAndSmall(t *testing.T) {
	for _, n := range []int{0, 1, -1, 9, 10, -40, 1e9 - 1, 1e9, math.MaxInt32, math.MinInt32, math.MaxInt, math.MaxInt - 1, math.MinInt, math.MinInt + 1} {
		a := integer.Of(n)
		if want := big.NewInt(int64(n)).String(); string(a) != want {
			t.Errorf("Of(%d) = %q", n, a)
		}
		if m, e := integer.Small(a); m != n || e != api.OK {
			t.Errorf("Small(%q) = %d, %d", a, m, e)
		}
	}
	above := big.NewInt(math.MaxInt).String()
	below := big.NewInt(math.MinInt).String()
	beyond := must(t)(integer.Add(api.Int(above), "1"))
	beneath := must(t)(integer.Sub(api.Int(below), "1"))
	for _, a := range []api.Int{beyond, beneath, "18446744073709551616", "-18446744073709551616", longest, "-" + longest} {
		if n, e := integer.Small(a); n != 0 || e != api.ErrRange {
			t.Errorf("Small(%q) = %d, %d", a, n, e)
		}
	}
}

func TestSignNegAbs(t *testing.T) {
	for _, a := range append(samples(), longest, "-"+longest) {
		n := reference(a)
		if s, e := integer.Sign(a); s != n.Sign() || e != api.OK {
			t.Errorf("Sign(%q) = %d, %d", a, s, e)
		}
		neg, e := integer.Neg(a)
		same(t, "Neg "+string(a), neg, e, new(big.Int).Neg(n))
		abs, e := integer.Abs(a)
		same(t, "Abs "+string(a), abs, e, new(big.Int).Abs(n))
	}
}

func TestCompareAddSub(t *testing.T) {
	list := append(samples(), longest, "-"+longest)
	for _, a := range list {
		for _, b := range list {
			x, y := reference(a), reference(b)
			if c, e := integer.Compare(a, b); c != x.Cmp(y) || e != api.OK {
				t.Errorf("Compare(%q, %q) = %d, %d", a, b, c, e)
			}
			sum, e := integer.Add(a, b)
			same(t, "Add "+string(a)+" "+string(b), sum, e, new(big.Int).Add(x, y))
			difference, e := integer.Sub(a, b)
			same(t, "Sub "+string(a)+" "+string(b), difference, e, new(big.Int).Sub(x, y))
		}
	}
}

func TestSum(t *testing.T) {
	list := samples()
	total := new(big.Int)
	for i, a := range list {
		total.Add(total, reference(a))
		sum, e := integer.Sum(list[:i+1])
		same(t, "Sum", sum, e, total)
	}
	for _, x := range []struct {
		list []api.Int
		want api.Int
		e    api.Errno
	}{
		{nil, "0", api.OK},
		{[]api.Int{}, "0", api.OK},
		{[]api.Int{"-5"}, "-5", api.OK},
		// Only the whole sum may be too long.
		{[]api.Int{longest, longest, "-" + longest}, longest, api.OK},
		{[]api.Int{longest, "1"}, "", api.ErrLarge},
		{[]api.Int{longest, "1", "x", longest + "0"}, "", api.ErrForm},
		{[]api.Int{longest, "1", longest + "0", "x"}, "", api.ErrLarge},
		{slices.Repeat([]api.Int{"3"}, api.MaxEvents), "12288", api.OK},
		{slices.Repeat([]api.Int{"3"}, api.MaxEvents+1), "", api.ErrMany},
		{slices.Repeat([]api.Int{"x"}, api.MaxEvents), "", api.ErrForm},
		{slices.Repeat([]api.Int{"x"}, api.MaxEvents+1), "", api.ErrMany},
		{slices.Repeat([]api.Int{longest}, api.MaxEvents), "", api.ErrLarge},
	} {
		given := slices.Clone(x.list)
		if sum, e := integer.Sum(x.list); sum != x.want || e != x.e {
			t.Errorf("Sum of %d elements = %q, %d instead of %q, %d", len(x.list), sum, e, x.want, x.e)
		}
		if !slices.Equal(given, x.list) {
			t.Error("Sum changes its list")
		}
	}
}

func TestErrorsOfSums(t *testing.T) {
	for _, a := range wrong() {
		want := integer.Check(a)
		if n, e := integer.Small(a); n != 0 || e != want {
			t.Errorf("Small: %d, %d instead of %d", n, e, want)
		}
		if n, e := integer.Sign(a); n != 0 || e != want {
			t.Errorf("Sign: %d, %d instead of %d", n, e, want)
		}
		if b, e := integer.Neg(a); b != "" || e != want {
			t.Errorf("Neg: %q, %d instead of %d", b, e, want)
		}
		if b, e := integer.Abs(a); b != "" || e != want {
			t.Errorf("Abs: %q, %d instead of %d", b, e, want)
		}
	}
	errorsOfTwo(t, "Add", integer.Add)
	errorsOfTwo(t, "Sub", integer.Sub)
	errorsOfTwo(t, "Compare", func(a, b api.Int) (api.Int, api.Errno) {
		order, e := integer.Compare(a, b)
		if order != 0 {
			t.Error("Compare has an order beside an error")
		}
		return "", e
	})
}

// errorsOfTwo checks that a function of two integers returns the error of Check for the first one, and then that for the second one.
func errorsOfTwo(t *testing.T, what string, f func(a, b api.Int) (api.Int, api.Errno)) {
	t.Helper()
	for _, a := range wrong() {
		for _, x := range []struct {
			a, b api.Int
			e    api.Errno
		}{
			{a, "0", integer.Check(a)}, {"0", a, integer.Check(a)}, {longest, a, integer.Check(a)}, {a, "x", integer.Check(a)}, {a, longest + "0", integer.Check(a)}, {"x", a, api.ErrForm}, {longest + "0", a, api.ErrLarge},
		} {
			if got, e := f(x.a, x.b); got != "" || e != x.e {
				t.Errorf("%s: %q, %d instead of %d", what, got, e, x.e)
			}
		}
	}
}
