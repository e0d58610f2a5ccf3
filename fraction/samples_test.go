package fraction_test

import (
	"math/big"
	"math/rand"
	"strings"
	"testing"

	"sandpile/api"
	"sandpile/fraction"
)

var (
	longest = api.Int(strings.Repeat("9", api.MaxLong))
	long    = api.Int(strings.Repeat("7", 600))
	none    = api.Frac{}
)

func frac(num, den api.Int) api.Frac { return api.Frac{Num: num, Den: den} }

// wrong lists fractions that are not in lowest terms, each with the error of Check.
func wrong() map[api.Frac]api.Errno {
	return map[api.Frac]api.Errno{
		none:          api.ErrForm,
		frac("1", ""): api.ErrForm, frac("", "1"): api.ErrForm, frac("01", "2"): api.ErrForm, frac("1", "02"): api.ErrForm, frac("-0", "1"): api.ErrForm, frac("1", "+2"): api.ErrForm,
		frac("1", "0"): api.ErrForm, frac("0", "0"): api.ErrForm, frac("1", "-2"): api.ErrForm, frac("-1", "-1"): api.ErrForm,
		frac("2", "4"): api.ErrForm, frac("-6", "3"): api.ErrForm, frac("0", "2"): api.ErrForm, frac(longest, "3"): api.ErrForm,
		frac(longest+"0", "1"): api.ErrLarge, frac("1", longest+"0"): api.ErrLarge, frac("-"+longest+"0", "0"): api.ErrLarge, frac("0", longest+"0"): api.ErrLarge,
		// The error of Num comes before that of Den.
		frac("x", longest+"0"): api.ErrForm, frac(longest+"0", "x"): api.ErrLarge,
	}
}

// samples lists fractions in lowest terms.
func samples() []api.Frac {
	list := []api.Frac{frac(longest, "1"), frac("1", longest), frac("-"+longest, "10"), frac(long, "1"), frac("-1", long)}
	random := rand.New(rand.NewSource(1))
	for num := int64(-6); num <= 6; num++ {
		for den := int64(1); den <= 6; den++ {
			list = append(list, of(big.NewRat(num, den)))
		}
	}
	for range 30 {
		num := new(big.Int).Rand(random, new(big.Int).Lsh(big.NewInt(1), uint(random.Intn(300)+1)))
		den := new(big.Int).Rand(random, new(big.Int).Lsh(big.NewInt(1), uint(random.Intn(300)+1)))
		num.Sub(num, den)
		list = append(list, of(new(big.Rat).SetFrac(num, den.Add(den, big.NewInt(1)))))
	}
	return list
}

// of returns a number of package big as a fraction.
func of(r *big.Rat) api.Frac {
	return frac(api.Int(r.Num().String()), api.Int(r.Denom().String()))
}

// reference returns a fraction as a number of package big.
func reference(a api.Frac) *big.Rat {
	r, _ := new(big.Rat).SetString(string(a.Num + "/" + a.Den))
	return r
}

// same reports a result that is not the fraction wanted.
func same(t *testing.T, what string, got api.Frac, e api.Errno, want api.Frac) {
	t.Helper()
	if got != want || e != api.OK {
		t.Errorf("%s: %v, %d instead of %v", what, got, e, want)
	}
}

// fails reports a result that is not the zero value beside an error.
func fails(t *testing.T, what string, got api.Frac, e, want api.Errno) {
	t.Helper()
	if got != none || e != want {
		t.Errorf("%s: %v, %d instead of the error %d", what, got, e, want)
	}
}

// must returns a result that has no error.
func must(t *testing.T) func(api.Frac, api.Errno) api.Frac {
	return func(a api.Frac, e api.Errno) api.Frac {
		t.Helper()
		if e != api.OK || fraction.Check(a) != api.OK {
			t.Fatalf("%v with the error %d", a, e)
		}
		return a
	}
}
