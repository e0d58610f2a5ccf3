package smith_test

import (
	"math/big"
	"math/rand"
	"slices"
	"testing"

	"sandpile/api"
	"sandpile/matrix"
	"sandpile/smith"
)

// Tests of P4.2.

// solves reports a solution that is none, or has numbers of more than 399 digits.
func solves(t *testing.T, a api.Matrix, b, x []api.Int) {
	t.Helper()
	if len(x) != a.Cols || digits(x) > 399 {
		t.Fatalf("%v is no solution for %v and %v", x, a, b)
	}
	image := times(reference(a), reference(of(len(x), 1, x...)), 1)
	if !slices.Equal(back(image, 1).Cells, b) {
		t.Errorf("%v is no solution for %v and %v", x, a, b)
	}
}

// solvable decides by determinants: equations have a solution if their right sides, as one more column, change neither the rank nor the greatest common divisor of its determinants.
func solvable(a api.Matrix, b []api.Int) bool {
	wide := of(a.Rows, a.Cols+1)
	for i, x := range b {
		wide.Cells = append(append(wide.Cells, a.Cells[i*a.Cols:(i+1)*a.Cols]...), x)
	}
	for k := min(a.Rows, a.Cols+1); k > 0; k-- {
		more := reference(wide).divisor(wide.Cols, k)
		if more.Sign() != 0 {
			return k <= a.Cols && more.Cmp(reference(a).divisor(a.Cols, k)) == 0
		}
	}
	return true
}

func TestSolveSmall(t *testing.T) {
	r := rand.New(rand.NewSource(10))
	counts := map[bool]int{}
	for range 1500 {
		rows, cols := r.Intn(4), r.Intn(4)
		a := of(rows, cols)
		for range rows * cols {
			a.Cells = append(a.Cells, list(r.Intn(9)-4)...)
		}
		b := []api.Int{}
		for range rows {
			b = append(b, list(r.Intn(9)-4)...)
		}
		x, found, e := smith.Solve(a, b)
		if want := solvable(a, b); found != want || e != api.OK || !found && len(x) > 0 {
			t.Errorf("Solve(%v, %v) = %v, %t, %d", a, b, x, found, e)
		}
		if found {
			solves(t, a, b, x)
		}
		counts[found]++
	}
	if counts[true] < 100 || counts[false] < 100 {
		t.Errorf("%v are too few", counts)
	}
}

func TestSolve(t *testing.T) {
	for _, x := range []struct {
		a     api.Matrix
		b     []api.Int
		found bool
	}{
		{ints(1, 2, 2, 4), list(6), true}, {ints(1, 2, 2, 4), list(7), false}, {ints(1, 2, 0, 0), list(0), true}, {ints(1, 2, 0, 0), list(1), false}, {ints(1, 1, 2), list(-8), true}, {ints(1, 1, 2), list(-7), false}, {ints(1, 1, -3), list(0), true},
		{ints(2, 1, 1, 2), list(3, 6), true}, {ints(2, 1, 1, 2), list(3, 7), false}, {ints(2, 2, 1, 1, 1, 1), list(5, 5), true}, {ints(2, 2, 1, 1, 1, 1), list(5, 6), false}, {ints(2, 2, 1, 1, 1, -1), list(1, 2), false}, {ints(2, 2, 1, 1, 1, -1), list(1, 3), true}, {ints(1, 3, 6, 10, 15), list(1), true},
		{none, nil, true}, {of(0, 3), []api.Int{}, true}, {of(3, 0), list(0, 0, 0), true}, {of(3, 0), list(0, 1, 0), false}, {of(1, 0), list(-1), false}, {of(0, 16), nil, true}, {filled(16, 16, "0"), filled(16, 1, "0").Cells, true}, {filled(16, 16, "2"), filled(16, 1, "6").Cells, true}, {filled(16, 16, "2"), filled(16, 1, "3").Cells, false},
		{unit(2), []api.Int{longest[:399], "-" + longest[:399]}, true},
	} {
		got, found, e := smith.Solve(x.a, x.b)
		if found != x.found || e != api.OK || !found && len(got) > 0 {
			t.Errorf("Solve(%v, %v) = %v, %t, %d", x.a, x.b, got, found, e)
		}
		if found {
			solves(t, x.a, x.b, got)
		}
	}
}

// TestSolveGreat has the greatest matrices for which no number may be too large.
func TestSolveGreat(t *testing.T) {
	r := rand.New(rand.NewSource(11))
	for rows := 1; rows <= 6; rows++ {
		for cols := 1; cols <= 6; cols++ {
			for rank := 1; rank <= min(rows, cols); rank++ {
				a := low(r, rows, cols, rank, 22)
				b := back(times(reference(a), reference(random(r, cols, 1, 1)), 1), 1).Cells
				x, found, e := smith.Solve(a, b)
				if !found || e != api.OK || digits(b) > 24 {
					t.Fatalf("Solve(%v, %v) = %v, %t, %d", a, b, x, found, e)
				}
				solves(t, a, b, x)
				// Twice the equations, with a side that is odd, have no solution.
				double := a
				double.Cells = slices.Clone(a.Cells)
				for i, n := range a.Cells {
					double.Cells[i] = integerOf(new(big.Int).Lsh(numberOf(n), 1))
				}
				odd := with(b, r.Intn(rows), "7")
				if x, found, e := smith.Solve(double, odd); found || e != api.OK || len(x) > 0 {
					t.Errorf("Solve(%v, %v) = %v, %t, %d", double, odd, x, found, e)
				}
			}
		}
	}
	for range 10 {
		// Right sides of their own: they hardly have a solution, unless the form has only ones.
		for _, cols := range []int{5, 6} {
			a, b := random(r, 6, cols, 24), random(r, 6, 1, 24).Cells
			if _, found, e := smith.Solve(a, b); found || e != api.OK {
				t.Errorf("Solve(%v, %v) = %t, %d", a, b, found, e)
			}
			a, b = random(r, cols-1, 6, 24), random(r, cols-1, 1, 24).Cells
			d, _ := smith.Diagonal(a)
			x, found, e := smith.Solve(a, b)
			if e != api.OK || d[cols-2] == "1" && !found {
				t.Errorf("Solve(%v, %v) = %v, %t, %d", a, b, x, found, e)
			}
			if found {
				solves(t, a, b, x)
			}
		}
	}
}

func TestErrorsOfSolve(t *testing.T) {
	for name, x := range wrong() {
		for _, b := range [][]api.Int{nil, {"1"}, {"x"}, {"1", "2"}} {
			if got, found, e := smith.Solve(x.m, b); len(got) > 0 || found || e != x.e {
				t.Errorf("Solve for %s: %v, %t, %d", name, got, found, e)
			}
		}
	}
	for _, x := range []struct {
		a api.Matrix
		b []api.Int
		e api.Errno
	}{
		{unit(2), nil, api.ErrShape}, {unit(2), list(1), api.ErrShape}, {unit(2), list(1, 2, 3), api.ErrShape}, {none, list(1), api.ErrShape}, {ints(1, 2, 1, 2), list(1, 2), api.ErrShape}, {of(0, 2), list(0), api.ErrShape}, {ints(2, 1, 1, 2), list(1), api.ErrShape},
		{unit(2), []api.Int{"x"}, api.ErrShape}, {unit(2), []api.Int{"x", longest + "0"}, api.ErrForm}, {unit(2), []api.Int{longest + "0", "x"}, api.ErrLarge}, {unit(2), []api.Int{"1", ""}, api.ErrForm}, {filled(2, 2, longest), []api.Int{"1", "01"}, api.ErrForm},
	} {
		if got, found, e := smith.Solve(x.a, x.b); len(got) > 0 || found || e != x.e {
			t.Errorf("Solve(%v, %v) = %v, %t, %d", x.a, x.b, got, found, e)
		}
	}
	// Numbers of more than 399 digits are no solutions.
	if got, found, e := smith.Solve(unit(2), []api.Int{"0", longest[:400]}); len(got) > 0 || found || e != api.ErrLarge {
		t.Errorf("%v, %t, %d", got, found, e)
	}
}

// TestTotal calls every function with all kinds of arguments: a panic fails the test, and results beside an error are zero.
func TestTotal(t *testing.T) {
	r := rand.New(rand.NewSource(12))
	matrices := []api.Matrix{none, of(0, 16), of(16, 0), filled(16, 16, longest), random(r, 16, 16, 30), random(r, 16, 16, 400), random(r, 3, 3, 1024), random(r, 5, 2, 9), random(r, 2, 2, 500), low(r, 16, 16, 2, 200)}
	for _, x := range wrong() {
		matrices = append(matrices, x.m)
	}
	for _, a := range matrices {
		d, u, v, e := smith.Form(a)
		if e != api.OK && (len(d) > 0 || !matrix.Same(u, none) || !matrix.Same(v, none)) {
			t.Errorf("%v, %v, %v beside the error %d", d, u, v, e)
		}
		if d, e := smith.Diagonal(a); e != api.OK && len(d) > 0 {
			t.Errorf("%v beside the error %d", d, e)
		}
		if unimodular, e := smith.Unimodular(a); e != api.OK && unimodular {
			t.Errorf("true beside the error %d", e)
		}
		if m, e := smith.Inverse(a); e != api.OK && !matrix.Same(m, none) {
			t.Errorf("%v beside the error %d", m, e)
		}
		for _, b := range matrices {
			if e := smith.Verify(a, b.Cells, a, b); e == api.OK && a.Rows*b.Rows > 0 {
				t.Errorf("%v and %v prove something", a, b)
			}
			if len(b.Cells) > 16 && len(b.Cells) != a.Rows {
				continue
			}
			if x, found, e := smith.Solve(a, b.Cells); e != api.OK && (found || len(x) > 0) {
				t.Errorf("%v, %t beside the error %d", x, found, e)
			}
		}
	}
}
