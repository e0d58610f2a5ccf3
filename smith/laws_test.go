package smith_test

import (
	"math/big"
	"math/rand"
	"slices"
	"testing"

	"sandpile/api"
	"sandpile/matrix"
	"sandpile/smith"
)

// Tests of P4.3.

// diagonal returns a form that has no error.
func diagonal(t *testing.T, a api.Matrix) []api.Int {
	t.Helper()
	d, e := smith.Diagonal(a)
	if e != api.OK {
		t.Fatalf("the form of %v has the error %d", a, e)
	}
	return d
}

func TestDeterminantAndRank(t *testing.T) {
	r := rand.New(rand.NewSource(13))
	for range 150 {
		rows, cols := r.Intn(6)+1, r.Intn(6)+1
		a := low(r, rows, cols, r.Intn(6), r.Intn(22)+3)
		d := diagonal(t, a)
		product, count := big.NewInt(1), 0
		for _, x := range d {
			if product.Mul(product, numberOf(x)); x != "0" {
				count++
			}
		}
		if k, e := matrix.Rank(a); k != count || e != api.OK {
			t.Errorf("the rank of %v is %d, its form %v", a, k, d)
		}
		if rows == cols && product.CmpAbs(reference(a).determinant()) != 0 {
			t.Errorf("the determinant of %v is not the product of %v", a, d)
		}
	}
}

func TestFormsOfRelatives(t *testing.T) {
	r := rand.New(rand.NewSource(14))
	for range 100 {
		rows, cols := r.Intn(6)+1, r.Intn(6)+1
		a := low(r, rows, cols, r.Intn(5)+1, 5)
		for i := range a.Cells {
			if r.Intn(3) == 0 {
				a.Cells[i] = "0"
			}
		}
		d := diagonal(t, a)
		relatives := map[string]api.Matrix{
			"from the left":  back(times(steps(r, rows, 10), reference(a), cols), cols),
			"from the right": back(times(reference(a), steps(r, cols, 10), cols), cols),
			"rows":           back(exchanged(reference(a), r.Intn(rows), r.Intn(rows)), cols),
		}
		relatives["transposed"], _ = matrix.Transpose(a)
		columns := exchanged(reference(relatives["transposed"]), r.Intn(cols), r.Intn(cols))
		relatives["columns"] = back(columns, rows)
		for name, b := range relatives {
			if other := diagonal(t, b); !slices.Equal(d, other) {
				t.Errorf("%s: %v has the form %v, %v has %v", name, a, d, b, other)
			}
		}
		for _, factor := range []int64{-1, 0, 1, 2, -12, 1000000007} {
			b, want := reference(a), []api.Int{}
			for _, row := range b {
				for _, x := range row {
					x.Mul(x, big.NewInt(factor))
				}
			}
			for _, x := range d {
				want = append(want, integerOf(new(big.Int).Abs(new(big.Int).Mul(numberOf(x), big.NewInt(factor)))))
			}
			if other := diagonal(t, back(b, cols)); !slices.Equal(other, want) {
				t.Errorf("%d times %v has the form %v instead of %v", factor, a, other, want)
			}
		}
	}
}

// exchanged returns the rows with two of them exchanged.
func exchanged(n numbers, i, k int) numbers {
	n[i], n[k] = n[k], n[i]
	return n
}

// TestMemory changes results, and looks at the arguments and at other results.
func TestMemory(t *testing.T) {
	for _, rows := range [][]api.Int{list(2, 1, 7, 4), list(1, 0, 0, 1), list(0, 0, 0, 0), list(2, 4, 6, 12)} {
		cells := append(make([]api.Int, 0, 20), rows...)
		spare := cells[:20]
		m := api.Matrix{Rows: 2, Cols: 2, Cells: cells}
		b := spare[:2]
		d, u, v, _ := smith.Form(m)
		again, _, _, _ := smith.Form(m)
		inverse, _ := smith.Inverse(m)
		x, _, _ := smith.Solve(m, b)
		alone, _ := smith.Diagonal(m)
		for _, l := range [][]api.Int{u.Cells, v.Cells, inverse.Cells, x, alone} {
			for i := range l {
				l[i] = "x"
			}
			_ = append(l, "y")
		}
		if !slices.Equal(spare[:4], rows) || !slices.Equal(spare[4:], make([]api.Int, 16)) || !slices.Equal(d, again) {
			t.Errorf("the argument is now %v, the form %v", spare, d)
		}
		_, u, v, _ = smith.Form(m)
		isForm(t, m, d, u, v)
	}
}
