package smith_test

import (
	"math/big"
	"math/rand"
	"slices"
	"testing"

	"sandpile/api"
	"sandpile/matrix"
	"sandpile/smith"
)

// Tests of P4.1: Verify, Unimodular and Inverse.

// with returns integers with one of them replaced.
func with(l []api.Int, i int, a api.Int) []api.Int {
	l = slices.Clone(l)
	l[i] = a
	return l
}

// changed returns a matrix with an entry replaced.
func changed(m api.Matrix, i int, a api.Int) api.Matrix {
	return of(m.Rows, m.Cols, with(m.Cells, i, a)...)
}

// more returns an integer greater by 1.
func more(a api.Int) api.Int {
	return integerOf(new(big.Int).Add(numberOf(a), big.NewInt(1)))
}

// TestChangedProofs changes each number of proofs: then they do not prove the form, unless package big says so.
func TestChangedProofs(t *testing.T) {
	r := rand.New(rand.NewSource(6))
	for range 40 {
		a := random(r, r.Intn(4)+1, r.Intn(4)+1, 2)
		if r.Intn(3) == 0 {
			a = low(r, a.Rows, a.Cols, 1, 3)
		}
		d, u, v, _ := smith.Form(a)
		verify := func(a api.Matrix, d []api.Int, u, v api.Matrix) {
			t.Helper()
			want := api.ErrProof
			if proves(a, d, u, v) {
				want = api.OK
			}
			if e := smith.Verify(a, d, u, v); e != want {
				t.Errorf("Verify(%v, %v, %v, %v) = %d instead of %d", a, d, u, v, e, want)
			}
		}
		verify(a, d, u, v)
		for i, x := range d {
			verify(a, with(d, i, more(x)), u, v)
			verify(a, with(d, i, "0"), u, v)
			if x != "0" {
				verify(a, with(d, i, "-"+x), u, v)
			}
		}
		for i, x := range a.Cells {
			verify(changed(a, i, more(x)), d, u, v)
		}
		for i, x := range u.Cells {
			verify(a, d, changed(u, i, more(x)), v)
		}
		for i, x := range v.Cells {
			verify(a, d, u, changed(v, i, more(x)))
		}
	}
}

// proves follows the definition with package big.
func proves(a api.Matrix, d []api.Int, u, v api.Matrix) bool {
	one, last := big.NewInt(1), big.NewInt(1)
	for _, x := range d {
		n := numberOf(x)
		if n.Sign() < 0 || last.Sign() == 0 && n.Sign() != 0 || last.Sign() != 0 && new(big.Int).Rem(n, last).Sign() != 0 {
			return false
		}
		last = n
	}
	want := filled(a.Rows, a.Cols, "0")
	for i, x := range d {
		want.Cells[i*a.Cols+i] = x
	}
	got := back(times(times(reference(u), reference(a), a.Cols), reference(v), a.Cols), a.Cols)
	return matrix.Same(got, want) && reference(u).determinant().CmpAbs(one) == 0 && reference(v).determinant().CmpAbs(one) == 0
}

func TestFalseForms(t *testing.T) {
	zero, one := filled(2, 2, "0"), unit(2)
	for _, x := range []struct {
		a    api.Matrix
		d    []api.Int
		u, v api.Matrix
		e    api.Errno
	}{
		{none, nil, none, none, api.OK}, {of(0, 2), nil, none, one, api.OK}, {of(2, 0), nil, one, none, api.OK}, {of(0, 2), nil, none, ints(2, 2, 5, 3, 3, 2), api.OK}, {of(0, 2), nil, none, ints(2, 2, 5, 3, 3, 3), api.ErrProof}, {of(2, 0), nil, zero, none, api.ErrProof},
		{zero, list(0, 0), one, one, api.OK}, {zero, list(0, 0), ints(2, 2, 0, 1, 1, 0), ints(2, 2, -1, 7, 0, 1), api.OK},
		// Zeros prove nothing without unimodular matrices.
		{zero, list(0, 0), zero, one, api.ErrProof}, {zero, list(0, 0), one, zero, api.ErrProof}, {zero, list(0, 0), ints(2, 2, 2, 0, 0, 1), one, api.ErrProof}, {zero, list(0, 0), one, ints(2, 2, 1, 1, 1, -2), api.ErrProof}, {zero, list(0, 0), filled(2, 2, "1"), one, api.ErrProof},
		// What is diagonal need not be a form.
		{ints(2, 2, 2, 0, 0, 4), list(2, 4), one, one, api.OK}, {ints(2, 2, 4, 0, 0, 2), list(4, 2), one, one, api.ErrProof}, {ints(2, 2, 2, 0, 0, 3), list(2, 3), one, one, api.ErrProof}, {ints(2, 2, 0, 0, 0, 3), list(0, 3), one, one, api.ErrProof}, {ints(2, 2, 3, 0, 0, 0), list(3, 0), one, one, api.OK},
		{ints(2, 2, -1, 0, 0, 1), list(-1, 1), one, one, api.ErrProof}, {ints(2, 2, 1, 0, 0, -1), list(1, -1), one, one, api.ErrProof}, {ints(2, 2, 1, 0, 0, -1), list(1, 1), one, ints(2, 2, 1, 0, 0, -1), api.OK},
		{ints(2, 2, 1, 0, 1, 1), list(1, 1), one, one, api.ErrProof}, {ints(1, 2, 1, 1), list(1), unit(1), one, api.ErrProof}, {ints(2, 1, 1, 1), list(1), one, unit(1), api.ErrProof}, {ints(1, 2, 1, 1), list(1), unit(1), ints(2, 2, 1, -1, 0, 1), api.OK},
		// A diagonal by matrices that are not unimodular is none.
		{one, list(2, 2), ints(2, 2, 2, 0, 0, 2), one, api.ErrProof}, {ints(1, 1, 6), list(12), ints(1, 1, 2), unit(1), api.ErrProof}, {ints(1, 1, 6), list(6), ints(1, 1, -1), ints(1, 1, -1), api.OK},
	} {
		if e := smith.Verify(x.a, x.d, x.u, x.v); e != x.e {
			t.Errorf("Verify(%v, %v, %v, %v) = %d instead of %d", x.a, x.d, x.u, x.v, e, x.e)
		}
	}
}

func TestErrorsOfVerify(t *testing.T) {
	a, d, one, beyond := ints(2, 2, 1, 0, 0, 2), list(1, 2), unit(2), longest+"0"
	for name, x := range wrong() {
		for _, y := range wrong() {
			for _, e := range []api.Errno{smith.Verify(x.m, list(1), y.m, y.m), smith.Verify(x.m, []api.Int{"x"}, one, one), smith.Verify(a, d, x.m, y.m), smith.Verify(a, nil, x.m, y.m)} {
				if e != x.e {
					t.Errorf("Verify for %s: %d", name, e)
				}
			}
		}
		for _, e := range []api.Errno{smith.Verify(x.m, d, one, one), smith.Verify(a, d, x.m, one), smith.Verify(a, d, one, x.m), smith.Verify(a, d, unit(3), x.m)} {
			if e != x.e {
				t.Errorf("Verify for %s: %d", name, e)
			}
		}
		for _, l := range [][]api.Int{{"01"}, {"1", ""}, {"1", "2", "3", "-0", beyond}} {
			if e := smith.Verify(a, l, x.m, x.m); e != api.ErrForm {
				t.Errorf("Verify for %v: %d", l, e)
			}
		}
		if e := smith.Verify(a, []api.Int{"1", beyond, "x"}, x.m, one); e != api.ErrLarge {
			t.Errorf("Verify for a long number: %d", e)
		}
	}
	for _, x := range []struct {
		a    api.Matrix
		d    []api.Int
		u, v api.Matrix
	}{
		{a, nil, one, one}, {a, list(1), one, one}, {a, list(1, 2, 0), one, one}, {a, slices.Repeat([]api.Int{"1"}, 5000), one, one}, {none, list(1), none, none},
		{a, d, unit(3), one}, {a, d, unit(1), one}, {a, d, one, unit(3)}, {a, d, one, none}, {a, d, ints(2, 1, 1, 0), one}, {a, d, ints(1, 2, 1, 0), one}, {a, d, one, ints(2, 3, 1, 0, 0, 0, 1, 0)}, {a, d, one, ints(3, 2, 1, 0, 0, 1, 0, 0)},
		{filled(2, 3, "0"), list(0, 0), unit(3), one}, {filled(2, 3, "0"), list(0, 0, 0), one, unit(3)}, {of(0, 2), nil, none, none}, {of(2, 0), nil, none, none},
		// The shape comes before the proof.
		{a, list(-1), one, one}, {a, list(2, 1), one, filled(3, 3, "0")},
	} {
		if e := smith.Verify(x.a, x.d, x.u, x.v); e != api.ErrShape {
			t.Errorf("Verify(%v, %v, %v, %v) = %d", x.a, x.d, x.u, x.v, e)
		}
	}
}

// TestLongProofs has proofs whose products and determinants are much too long for integers.
func TestLongProofs(t *testing.T) {
	half := new(big.Int).Exp(big.NewInt(10), big.NewInt(511), nil)
	square := new(big.Int).Mul(half, half)
	m, s, next := integerOf(half), integerOf(square), more(integerOf(square))
	u, v := of(2, 2, next, m, m, "1"), of(2, 2, "1", "-"+m, "-"+m, next)
	l := of(2, 2, "1", longest, "0", "1")
	for _, x := range []struct {
		a    api.Matrix
		d    []api.Int
		u, v api.Matrix
		e    api.Errno
	}{
		{unit(2), list(1, 1), u, v, api.OK}, {unit(2), list(1, 1), v, u, api.OK}, {unit(2), list(1, 1), u, u, api.ErrProof}, {unit(2), list(1, 1), u, changed(v, 3, s), api.ErrProof}, {unit(2), list(1, 1), changed(u, 0, s), v, api.ErrProof},
		{filled(2, 2, "0"), list(0, 0), l, l, api.OK}, {filled(2, 2, "0"), list(0, 0), l, changed(l, 3, longest), api.ErrProof}, {filled(2, 2, "0"), list(0, 0), filled(2, 2, longest), l, api.ErrProof},
		{unit(2), []api.Int{longest, longest}, l, l, api.ErrProof}, {filled(2, 2, longest), []api.Int{longest, longest}, filled(2, 2, longest), filled(2, 2, longest), api.ErrProof}, {filled(2, 2, longest), []api.Int{longest, "0"}, ints(2, 2, 1, 0, -1, 1), ints(2, 2, 1, -1, 0, 1), api.OK},
		{filled(16, 16, longest), slices.Repeat([]api.Int{longest}, 16), filled(16, 16, "-"+longest), filled(16, 16, longest), api.ErrProof},
	} {
		if e := smith.Verify(x.a, x.d, x.u, x.v); e != x.e {
			t.Errorf("Verify of %d digits: %d instead of %d", digits(x.a.Cells, x.d, x.u.Cells, x.v.Cells), e, x.e)
		}
	}
}

// bigPrimes lists the first primes of seven digits.
func bigPrimes(count int) []*big.Int {
	l := []*big.Int{}
	for p := int64(1_000_001); len(l) < count; p += 2 {
		if n := big.NewInt(p); n.ProbablyPrime(0) {
			l = append(l, n)
		}
	}
	return l
}

// TestGreatMultiples has numbers that differ by multiples of the first primes of seven digits: no residues may be taken for the numbers.
func TestGreatMultiples(t *testing.T) {
	product, halves := big.NewInt(1), []*big.Int{big.NewInt(1), big.NewInt(1)}
	for i, p := range bigPrimes(api.MaxLong / 7) {
		product.Mul(product, p)
		halves[i%2].Mul(halves[i%2], p)
		for _, sign := range []int64{1, -1} {
			a := integerOf(new(big.Int).Add(product, big.NewInt(sign)))
			for _, m := range []api.Matrix{
				of(1, 1, a), of(2, 2, a, "0", "5", "1"), of(2, 2, integerOf(halves[0]), list(int(-sign))[0], "1", integerOf(halves[1])),
			} {
				if unimodular, e := smith.Unimodular(m); unimodular || e != api.OK {
					t.Errorf("%v is unimodular", m)
				}
			}
			if e := smith.Verify(of(1, 1, a), list(1), of(1, 1, list(int(sign))[0]), unit(1)); e != api.ErrProof {
				t.Errorf("Verify for %s: %d", a, e)
			}
			if e := smith.Verify(of(1, 1, "1"), []api.Int{a}, unit(1), unit(1)); e != api.ErrProof {
				t.Errorf("Verify for %s: %d", a, e)
			}
			if e := smith.Verify(of(1, 2, "1", integerOf(product)), list(1), unit(1), unit(2)); e != api.ErrProof {
				t.Errorf("Verify for %s: %d", a, e)
			}
		}
	}
}

// TestMixedSigns has numbers that are 1 by some primes and -1 by others.
func TestMixedSigns(t *testing.T) {
	const count = 12
	product, parts := big.NewInt(1), []*big.Int{}
	for _, p := range bigPrimes(count) {
		product.Mul(product, p)
	}
	for _, p := range bigPrimes(count) {
		others := new(big.Int).Quo(product, p)
		parts = append(parts, others.Mul(others, new(big.Int).ModInverse(others, p)))
	}
	least := new(big.Int).Set(product)
	for signs := 1; signs < 1<<count-1; signs++ {
		n := new(big.Int)
		for i, part := range parts {
			if signs>>i&1 == 1 {
				n.Add(n, part)
			} else {
				n.Sub(n, part)
			}
		}
		if n.Mod(n, product); n.Cmp(least) < 0 {
			least = n
		}
	}
	// So small a number is decided by these primes alone.
	if digits := len(least.String()); digits > 6*count-3 {
		t.Fatalf("%d digits", digits)
	}
	if unimodular, e := smith.Unimodular(of(1, 1, integerOf(least))); unimodular || e != api.OK {
		t.Errorf("%s is a unit", least)
	}
}

func TestUnimodular(t *testing.T) {
	for _, x := range []struct {
		m    api.Matrix
		want bool
	}{
		{none, true}, {unit(1), true}, {ints(1, 1, -1), true}, {ints(1, 1, 0), false}, {ints(1, 1, 2), false}, {ints(2, 2, 2, 1, 7, 4), true}, {ints(2, 2, 0, 1, 1, 0), true}, {ints(2, 2, 1, 1, 1, 1), false}, {ints(2, 2, 1, 0, 0, 2), false}, {ints(2, 2, 2, 4, 6, 8), false},
		{of(0, 1), false}, {of(1, 0), false}, {ints(1, 2, 1, 0), false}, {ints(2, 1, 1, 0), false}, {ints(2, 3, 1, 0, 0, 0, 1, 0), false}, {unit(16), true}, {filled(16, 16, longest), false}, {of(1, 1, longest), false}, {of(2, 2, "1", longest, "0", "-1"), true}, {of(2, 2, longest, "1", "-1", "0"), true},
		// By the first primes of seven digits, entries are 0.
		{ints(2, 2, 1000003, 1, -1, 0), true}, {ints(2, 2, 1000003, 1, 1, 0), true}, {ints(2, 2, 1000033, 1, 1000032, 1), true}, {ints(3, 3, 1000003, 1, 0, 1, 1000033, 0, 1, 1000037, -1), false}, {ints(3, 3, 1000003, 1000002, 0, 1, 1, 0, 1, 1000037, -1), true},
	} {
		if got, e := smith.Unimodular(x.m); got != x.want || e != api.OK {
			t.Errorf("Unimodular(%v) = %t, %d", x.m, got, e)
		}
	}
	r := rand.New(rand.NewSource(7))
	for n := 1; n <= 16; n++ {
		m := steps(r, n, 60)
		if got, e := smith.Unimodular(back(m, n)); !got || e != api.OK {
			t.Errorf("Unimodular(%v) = %t, %d", back(m, n), got, e)
		}
		m[0][0].Add(m[0][0], big.NewInt(1))
		want := m.determinant().CmpAbs(big.NewInt(1)) == 0
		if got, e := smith.Unimodular(back(m, n)); got != want || e != api.OK {
			t.Errorf("Unimodular(%v) = %t, %d", back(m, n), got, e)
		}
	}
}

func TestInverse(t *testing.T) {
	for _, x := range []struct{ m, want api.Matrix }{
		{none, none}, {unit(1), unit(1)}, {ints(1, 1, -1), ints(1, 1, -1)}, {ints(2, 2, 2, 1, 7, 4), ints(2, 2, 4, -1, -7, 2)}, {ints(2, 2, 0, 1, 1, 0), ints(2, 2, 0, 1, 1, 0)}, {ints(2, 2, 0, 1, -1, 0), ints(2, 2, 0, -1, 1, 0)}, {unit(16), unit(16)}, {ints(3, 3, 0, 0, 1, 1, 0, 0, 0, 1, 0), ints(3, 3, 0, 1, 0, 0, 0, 1, 1, 0, 0)},
	} {
		if m, e := smith.Inverse(x.m); !matrix.Same(m, x.want) || e != api.OK {
			t.Errorf("the inverse of %v is %v, %d", x.m, m, e)
		}
	}
	r := rand.New(rand.NewSource(8))
	for n := 1; n <= 16; n++ {
		for range 5 {
			m := back(steps(r, n, 50), n)
			if digits(m.Cells) > 24 {
				continue
			}
			inverse, e := smith.Inverse(m)
			if e == api.ErrLarge && n > 6 {
				continue
			}
			if e != api.OK || !matrix.Same(back(times(reference(m), reference(inverse), n), n), unit(n)) {
				t.Errorf("the inverse of %v is %v, %d", m, inverse, e)
			}
		}
	}
	for _, m := range []api.Matrix{
		of(0, 1), of(1, 0), ints(1, 1, 0), ints(1, 1, 2), ints(1, 2, 1, 0), ints(2, 1, 1, 0), ints(2, 2, 1, 1, 1, 1), ints(2, 2, 1, 0, 0, -2), filled(16, 16, longest), filled(6, 5, "1"), of(1, 1, longest),
	} {
		if inverse, e := smith.Inverse(m); !matrix.Same(inverse, none) || e != api.ErrState {
			t.Errorf("the inverse of %v is %v, %d", m, inverse, e)
		}
	}
}

// TestGreatInverses has six rows of 24 digits, for which no number may be too large.
func TestGreatInverses(t *testing.T) {
	r := rand.New(rand.NewSource(9))
	for range 20 {
		// A triangle of 12 digits times another one: each unimodular.
		lower, upper := reference(random(r, 6, 6, 11)), reference(random(r, 6, 6, 11))
		for i := range 6 {
			for k := range i {
				lower[k][i], upper[i][k] = new(big.Int), new(big.Int)
			}
			lower[i][i], upper[i][i] = big.NewInt(1), big.NewInt(-1)
		}
		m := back(times(lower, upper, 6), 6)
		inverse, e := smith.Inverse(m)
		if e != api.OK || digits(m.Cells) > 24 || !matrix.Same(back(times(reference(inverse), reference(m), 6), 6), unit(6)) {
			t.Errorf("the inverse of %v is %v, %d", m, inverse, e)
		}
	}
	// The inverse of this one is too long.
	long := of(3, 3, "1", longest, "0", "0", "1", longest, "0", "0", "1")
	if inverse, e := smith.Inverse(long); !matrix.Same(inverse, none) || e != api.ErrLarge {
		t.Errorf("the inverse is %v, %d", inverse, e)
	}
}

func TestErrorsOfUnimodular(t *testing.T) {
	for name, x := range wrong() {
		if got, e := smith.Unimodular(x.m); got || e != x.e {
			t.Errorf("Unimodular for %s: %t, %d", name, got, e)
		}
		if m, e := smith.Inverse(x.m); !matrix.Same(m, none) || e != x.e {
			t.Errorf("Inverse for %s: %v, %d", name, m, e)
		}
	}
}
