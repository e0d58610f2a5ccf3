package fraction_test

import (
	"math"
	"math/big"
	"testing"

	"sandpile/api"
	"sandpile/fraction"
)

// Tests of P2.1.

func TestCheck(t *testing.T) {
	for _, a := range samples() {
		if e := fraction.Check(a); e != api.OK {
			t.Errorf("Check(%v) = %d", a, e)
		}
	}
	for a, want := range wrong() {
		if e := fraction.Check(a); e != want {
			t.Errorf("Check(%v) = %d instead of %d", a, e, want)
		}
	}
}

func TestMake(t *testing.T) {
	for _, x := range []struct {
		num, den api.Int
		want     api.Frac
	}{
		{"6", "-4", frac("-3", "2")}, {"-6", "-4", frac("3", "2")}, {"-6", "4", frac("-3", "2")}, {"6", "4", frac("3", "2")}, {"0", "-7", frac("0", "1")}, {"0", "7", frac("0", "1")},
		{"-8", "-2", frac("4", "1")}, {"1", "-1", frac("-1", "1")}, {"5", "1", frac("5", "1")}, {longest, "-" + longest, frac("-1", "1")}, {longest, "1", frac(longest, "1")}, {"-1", "-" + longest, frac("1", longest)},
	} {
		a, e := fraction.Make(x.num, x.den)
		same(t, "Make", a, e, x.want)
	}
	for _, x := range []struct {
		num, den api.Int
		want     api.Errno
	}{
		{"1", "0", api.ErrZero}, {"0", "0", api.ErrZero}, {"x", "0", api.ErrForm}, {"1", "01", api.ErrForm}, {"1", "", api.ErrForm}, {"", "1", api.ErrForm}, {longest + "0", "0", api.ErrLarge}, {"1", longest + "0", api.ErrLarge},
		{"x", longest + "0", api.ErrForm}, {longest + "0", "x", api.ErrLarge},
	} {
		a, e := fraction.Make(x.num, x.den)
		fails(t, "Make", a, e, x.want)
	}
}

func TestOf(t *testing.T) {
	for num := -12; num <= 12; num++ {
		for den := -12; den <= 12; den++ {
			a, e := fraction.Of(num, den)
			if den == 0 {
				fails(t, "Of", a, e, api.ErrZero)
				continue
			}
			same(t, "Of", a, e, of(big.NewRat(int64(num), int64(den))))
		}
	}
	least := new(big.Int).SetInt64(math.MinInt)
	for den, want := range map[int]*big.Rat{-1: new(big.Rat).SetInt(new(big.Int).Neg(least)), math.MinInt: big.NewRat(1, 1), math.MaxInt: new(big.Rat).SetFrac(least, big.NewInt(math.MaxInt))} {
		a, e := fraction.Of(math.MinInt, den)
		same(t, "Of", a, e, of(want))
	}
}

func TestNegFloorText(t *testing.T) {
	for _, a := range samples() {
		r := reference(a)
		neg, e := fraction.Neg(a)
		same(t, "Neg", neg, e, of(new(big.Rat).Neg(r)))
		floor, e := fraction.Floor(a)
		// The quotient of Euclid is rounded down for denominators greater than 0.
		if want := new(big.Int).Div(r.Num(), r.Denom()).String(); string(floor) != want || e != api.OK {
			t.Errorf("Floor(%v) = %s, %d", a, floor, e)
		}
		text, e := fraction.Text(a)
		if want := r.RatString(); text != want || e != api.OK {
			t.Errorf("Text(%v) = %q, %d", a, text, e)
		}
		back, e := fraction.Parse(text)
		same(t, "Parse "+text, back, e, a)
	}
	for a, want := range wrong() {
		neg, e := fraction.Neg(a)
		fails(t, "Neg", neg, e, want)
		if floor, e := fraction.Floor(a); floor != "" || e != want {
			t.Errorf("Floor(%v) = %q, %d", a, floor, e)
		}
		if text, e := fraction.Text(a); text != "" || e != want {
			t.Errorf("Text(%v) = %q, %d", a, text, e)
		}
	}
}

func TestParse(t *testing.T) {
	for text, want := range map[string]api.Frac{
		"-3/2": frac("-3", "2"), "12": frac("12", "1"), "0": frac("0", "1"), "-7": frac("-7", "1"), "1/10": frac("1", "10"), string(longest): frac(longest, "1"), "-1/" + string(longest): frac("-1", longest),
	} {
		a, e := fraction.Parse(text)
		same(t, "Parse "+text, a, e, want)
	}
	large := string(longest + "0")
	for text, want := range map[string]api.Errno{
		"": api.ErrForm, "/": api.ErrForm, "1/": api.ErrForm, "/2": api.ErrForm, "-/2": api.ErrForm, "1/-": api.ErrForm, "1//2": api.ErrForm, "1/2/3": api.ErrForm, "1/2/": api.ErrForm, "+1": api.ErrForm, "-0": api.ErrForm, "01/2": api.ErrForm, "1/02": api.ErrForm, "1/ 2": api.ErrForm, " 1/2": api.ErrForm, "1/2\n": api.ErrForm, "1:2": api.ErrForm, "0.5": api.ErrForm,
		"4/2": api.ErrForm, "0/2": api.ErrForm, "1/0": api.ErrForm, "0/0": api.ErrForm, "3/1": api.ErrForm, "0/1": api.ErrForm, "1/-2": api.ErrForm, "1/-1": api.ErrForm,
		// A text of a wrong form is ErrForm, even if a part is too long.
		large: api.ErrLarge, "-" + large: api.ErrLarge, "1/" + large: api.ErrLarge, large + "/2": api.ErrLarge, large + "/" + large: api.ErrLarge, large + "/0": api.ErrLarge, large + "/-2": api.ErrLarge, "0/-" + large: api.ErrLarge,
		large + "/x": api.ErrForm, large + "/1": api.ErrForm, large + "/": api.ErrForm, "x/" + large: api.ErrForm, "/" + large: api.ErrForm, large + "/2/3": api.ErrForm,
	} {
		a, e := fraction.Parse(text)
		fails(t, "Parse "+text, a, e, want)
	}
}
