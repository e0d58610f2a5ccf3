package smith_test

import (
	"math/big"
	"math/rand"
	"slices"
	"strings"
	"testing"

	"sandpile/api"
	"sandpile/matrix"
	"sandpile/smith"
)

// Tests of P4.1: Form and Diagonal.

// formed returns the form of a matrix, and reports one that is not right or has numbers of more than 399 digits.
func formed(t *testing.T, a api.Matrix) []api.Int {
	t.Helper()
	d, u, v, e := smith.Form(a)
	if e != api.OK {
		t.Fatalf("the form of %v has the error %d", a, e)
	}
	isForm(t, a, d, u, v)
	if most := digits(u.Cells, v.Cells); most > 399 {
		t.Errorf("the transformations of %v have numbers of %d digits", a, most)
	}
	if e := smith.Verify(a, d, u, v); e != api.OK {
		t.Errorf("the form of %v is not verified: %d", a, e)
	}
	if again, e := smith.Diagonal(a); !slices.Equal(d, again) || e != api.OK {
		t.Errorf("the diagonal of %v is %v, %d instead of %v", a, again, e, d)
	}
	return d
}

func TestExamples(t *testing.T) {
	for _, x := range []struct {
		a api.Matrix
		d []api.Int
	}{
		{ints(2, 2, 2, 4, 6, 8), list(2, 4)}, {ints(3, 3, 2, -1, -1, -1, 2, -1, -1, -1, 2), list(1, 3, 0)}, {ints(2, 2, 2, 1, 7, 4), list(1, 1)},
		{none, nil}, {of(0, 1), nil}, {of(0, 16), nil}, {of(16, 0), nil}, {of(1, 0), nil},
		{ints(1, 1, 0), list(0)}, {ints(1, 1, 1), list(1)}, {ints(1, 1, -6), list(6)}, {of(1, 1, longest), []api.Int{longest}}, {of(1, 1, "-"+longest), []api.Int{longest}},
		{ints(1, 3, 6, -10, 15), list(1)}, {ints(3, 1, 6, -10, 14), list(2)}, {ints(1, 4, 0, 0, 0, -4), list(4)}, {ints(1, 3, 0, 0, 0), list(0)},
		{ints(2, 2, 4, 0, 0, 6), list(2, 12)}, {ints(2, 2, 0, 0, 0, 3), list(3, 0)}, {ints(2, 2, 6, 0, 0, 0), list(6, 0)}, {ints(3, 3, 2, 0, 0, 0, 3, 0, 0, 0, 5), list(1, 1, 30)}, {ints(3, 3, 6, 0, 0, 0, 10, 0, 0, 0, 15), list(1, 30, 30)},
		{ints(2, 3, 2, 4, 6, 1, 2, 3), list(1, 0)}, {ints(3, 2, 2, 4, 6, 8, 10, 12), list(2, 4)}, {ints(2, 4, 0, 2, 0, 0, 0, 0, 0, 4), list(2, 4)},
		{filled(16, 16, "0"), slices.Repeat([]api.Int{"0"}, 16)}, {filled(16, 16, "-7"), append([]api.Int{"7"}, slices.Repeat([]api.Int{"0"}, 15)...)}, {unit(16), slices.Repeat([]api.Int{"1"}, 16)},
		{filled(16, 3, "12"), list(12, 0, 0)}, {filled(3, 16, "12"), list(12, 0, 0)},
	} {
		if d := formed(t, x.a); !slices.Equal(d, x.d) {
			t.Errorf("%v has the form %v instead of %v", x.a, d, x.d)
		}
	}
}

// TestSmallForms compares forms with the divisors of all determinants.
func TestSmallForms(t *testing.T) {
	r := rand.New(rand.NewSource(1))
	for range 400 {
		a := random(r, r.Intn(5), r.Intn(5), 2)
		for i := range a.Cells {
			switch r.Intn(5) {
			case 0:
				a.Cells[i] = "0"
			case 1, 2:
				a.Cells[i] = list(0, 2, -4, 6, 12, -30)[r.Intn(6)]
			}
		}
		if d := formed(t, a); !slices.Equal(d, diagonalOf(a)) {
			t.Errorf("%v has the form %v instead of %v", a, d, diagonalOf(a))
		}
	}
}

// TestSixByTwentyFour has the greatest matrices for which no number may be too large.
func TestSixByTwentyFour(t *testing.T) {
	r := rand.New(rand.NewSource(2))
	for rows := 1; rows <= 6; rows++ {
		for cols := 1; cols <= 6; cols++ {
			formed(t, random(r, rows, cols, 24))
			for rank := range min(rows, cols) {
				formed(t, low(r, rows, cols, rank, 23))
			}
		}
	}
	most := api.Int(strings.Repeat("9", 24))
	for range 20 {
		a := random(r, 6, 6, 24)
		for i, x := range a.Cells {
			a.Cells[i] = most
			if strings.HasPrefix(string(x), "-") {
				a.Cells[i] = "-" + most
			}
		}
		formed(t, a)
		copy(a.Cells[30:], a.Cells[:6])
		formed(t, a)
	}
}

// TestHiddenForms looks for diagonals of many kinds behind unimodular matrices.
func TestHiddenForms(t *testing.T) {
	r := rand.New(rand.NewSource(3))
	factors := []int{1, 1, 1, 2, 2, 3, 4, 6, 30, 210, 1009, 0}
	for range 150 {
		rows, cols := r.Intn(6)+1, r.Intn(6)+1
		d, last := []api.Int{}, 1
		for len(d) < min(rows, cols) {
			if last *= factors[r.Intn(len(factors))]; last > 1<<40 {
				last = 0
			}
			d = append(d, list(last)...)
		}
		a := hidden(r, rows, cols, d, 12)
		if digits(a.Cells) > 24 {
			continue
		}
		if got := formed(t, a); !slices.Equal(got, d) {
			t.Errorf("%v has the form %v instead of %v", a, got, d)
		}
	}
}

// TestManyPrimes has entries with many common prime factors, so that the first combinations of columns do not do.
func TestManyPrimes(t *testing.T) {
	primes := []int64{2, 3, 5, 7, 11, 13, 17, 19, 23, 29, 31, 37, 41, 43, 47, 53, 59, 61}
	r := rand.New(rand.NewSource(4))
	for range 60 {
		n := r.Intn(5) + 2
		a := of(n, n)
		for range n * n {
			x := big.NewInt(1)
			for _, p := range primes {
				if r.Intn(3) > 0 && len(x.String()) < 22 {
					x.Mul(x, big.NewInt(p))
				}
			}
			a.Cells = append(a.Cells, integerOf(x))
		}
		formed(t, a)
	}
	// The first column and c times the second one have the common divisor p for the c-th prime p.
	first, second, modulus := big.NewInt(0), big.NewInt(1), big.NewInt(1)
	for c, p := range primes[2:] {
		if modulus.Mul(modulus, big.NewInt(p)); len(modulus.String()) > 22 {
			break
		}
		for new(big.Int).Rem(new(big.Int).Add(first, new(big.Int).Mul(second, big.NewInt(int64(c)))), big.NewInt(p)).Sign() != 0 {
			first.Add(first, new(big.Int).Quo(modulus, big.NewInt(p)))
		}
	}
	formed(t, of(2, 2, integerOf(first), integerOf(second), "0", integerOf(modulus)))
	formed(t, of(2, 2, integerOf(modulus), "0", integerOf(second), integerOf(first)))
}

// TestLaplacians has the greatest graphs that are complete.
func TestLaplacians(t *testing.T) {
	for n := 2; n <= 16; n++ {
		full := filled(n, n, "-1")
		for i := range n {
			full.Cells[i*n+i] = list(n - 1)[0]
		}
		want := append([]api.Int{"1"}, slices.Repeat(list(n), n-2)...)
		if d := formed(t, full); !slices.Equal(d, append(want, "0")) {
			t.Errorf("the form of %v is %v", full, d)
		}
		reduced, _ := matrix.Minor(full, 0, 0)
		if d := formed(t, reduced); !slices.Equal(d, want) {
			t.Errorf("the form of %v is %v", reduced, d)
		}
	}
}

// TestGreatForms has matrices whose numbers may be too large, but only as a whole.
func TestGreatForms(t *testing.T) {
	r := rand.New(rand.NewSource(5))
	for _, x := range []struct{ rows, cols, rank, digits int }{
		{16, 16, 16, 1}, {16, 16, 16, 10}, {16, 16, 8, 10}, {16, 7, 7, 20}, {7, 16, 7, 20}, {16, 16, 1, 300}, {16, 16, 16, 25}, {16, 16, 16, 60}, {16, 16, 16, 1024}, {16, 2, 2, 300}, {2, 2, 2, 500}, {3, 3, 3, 1024}, {6, 6, 6, 70}, {1, 2, 1, 390}, {1, 2, 1, 402}, {1, 2, 1, 600}, {2, 1, 1, 390}, {2, 1, 1, 402}, {2, 1, 1, 1024},
	} {
		a := low(r, x.rows, x.cols, x.rank, x.digits)
		if x.rank == min(x.rows, x.cols) {
			a = random(r, x.rows, x.cols, x.digits)
		}
		d, u, v, e := smith.Form(a)
		switch {
		case e == api.OK:
			isForm(t, a, d, u, v)
			if digits(u.Cells, v.Cells) > 399 {
				t.Errorf("%d digits for %+v", digits(u.Cells, v.Cells), x)
			}
		case e != api.ErrLarge || len(d) > 0 || !matrix.Same(u, none) || !matrix.Same(v, none):
			t.Errorf("%v, %v, %v, %d for %+v", d, u, v, e, x)
		}
		again, f := smith.Diagonal(a)
		if f != api.OK && (f != api.ErrLarge || len(again) > 0) || f == api.OK && e == api.OK && !slices.Equal(again, d) {
			t.Errorf("%v, %d for %+v", again, f, x)
		}
	}
}

func TestErrorsOfForms(t *testing.T) {
	for name, x := range wrong() {
		d, u, v, e := smith.Form(x.m)
		if len(d) > 0 || !matrix.Same(u, none) || !matrix.Same(v, none) || e != x.e {
			t.Errorf("Form for %s: %v, %v, %v, %d", name, d, u, v, e)
		}
		if d, e := smith.Diagonal(x.m); len(d) > 0 || e != x.e {
			t.Errorf("Diagonal for %s: %v, %d", name, d, e)
		}
	}
}
