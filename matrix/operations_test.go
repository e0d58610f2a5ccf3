package matrix_test

import (
	"math/big"
	"math/rand"
	"slices"
	"strings"
	"testing"

	"sandpile/api"
	"sandpile/matrix"
)

// Tests of P3.2.

// ten returns a power of ten.
func ten(n int) api.Int { return api.Int("1" + strings.Repeat("0", n)) }

// sums returns the matrix of the sums of a list of products for each entry, with package big.
func sums(rows, cols int, entry func(row, col int) *big.Int) api.Matrix {
	m := of(rows, cols)
	for row := range rows {
		for col := range cols {
			m.Cells = append(m.Cells, api.Int(entry(row, col).String()))
		}
	}
	return m
}

func TestAddProductApply(t *testing.T) {
	r := rand.New(rand.NewSource(1))
	for _, sides := range [][3]int{{0, 0, 0}, {0, 3, 2}, {3, 0, 2}, {2, 3, 0}, {16, 0, 16}, {0, 16, 0}, {1, 1, 1}, {1, 4, 1}, {4, 1, 4}, {2, 3, 4}, {5, 4, 3}, {7, 7, 7}, {16, 16, 16}, {1, 16, 16}} {
		for _, digits := range []int{1, 2, 20, 500} {
			rows, inner, cols := sides[0], sides[1], sides[2]
			a, b, c := random(r, rows, inner, digits), random(r, inner, cols, digits), random(r, rows, inner, digits)
			x, y, z := reference(a), reference(b), reference(c)
			got, e := matrix.Add(a, c)
			same(t, "Add", got, e, sums(rows, inner, func(row, col int) *big.Int {
				return new(big.Int).Add(x[row][col], z[row][col])
			}))
			got, e = matrix.Product(a, b)
			want := sums(rows, cols, func(row, col int) *big.Int {
				total := new(big.Int)
				for i := range inner {
					total.Add(total, new(big.Int).Mul(x[row][i], y[i][col]))
				}
				return total
			})
			same(t, "Product", got, e, want)
			for col := range cols {
				column, image := []api.Int{}, []api.Int{}
				for i := range inner {
					column = append(column, b.Cells[i*cols+col])
				}
				for row := range rows {
					image = append(image, want.Cells[row*cols+col])
				}
				if l, e := matrix.Apply(a, column); !slices.Equal(l, image) || e != api.OK {
					t.Errorf("Apply: %v, %d instead of %v", l, e, image)
				}
			}
		}
	}
	// Products without anything to add are 0.
	got, e := matrix.Product(of(2, 0), of(0, 3))
	same(t, "Product", got, e, filled(2, 3, "0"))
	if l, e := matrix.Apply(of(2, 0), nil); !slices.Equal(l, []api.Int{"0", "0"}) || e != api.OK {
		t.Errorf("Apply: %v, %d", l, e)
	}
	if l, e := matrix.Apply(of(0, 2), []api.Int{"1", "2"}); len(l) != 0 || e != api.OK {
		t.Errorf("Apply: %v, %d", l, e)
	}
}

func TestExamples(t *testing.T) {
	square, e := matrix.Product(ints(2, 2, 2, 1, 7, 4), ints(2, 2, 2, 1, 7, 4))
	same(t, "square", square, e, ints(2, 2, 11, 6, 42, 23))
	if d, e := matrix.Determinant(ints(2, 2, 2, 1, 7, 4)); d != "1" || e != api.OK {
		t.Errorf("determinant %q, %d", d, e)
	}
	m := ints(3, 3, 1, 2, 3, 4, 5, 6, 7, 8, 9)
	d, e := matrix.Determinant(m)
	k, f := matrix.Rank(m)
	if d != "0" || e != api.OK || k != 2 || f != api.OK {
		t.Errorf("determinant %q, %d, rank %d, %d", d, e, k, f)
	}
	minor, _ := matrix.Minor(m, 0, 0)
	if d, e := matrix.Determinant(minor); d != "-3" || e != api.OK {
		t.Errorf("determinant %q, %d", d, e)
	}
}

func TestErrorsOfSumsAndProducts(t *testing.T) {
	fit := filled(2, 2, "1")
	for _, x := range wrong() {
		for i, f := range []func(a, b api.Matrix) (api.Matrix, api.Errno){matrix.Add, matrix.Product} {
			what := []string{"Add", "Product"}[i]
			for _, y := range wrong() {
				m, e := f(x.m, y.m)
				fails(t, what, m, e, x.e)
			}
			for _, other := range []api.Matrix{fit, of(3, 0), filled(2, 2, longest)} {
				m, e := f(other, x.m)
				fails(t, what, m, e, x.e)
				m, e = f(x.m, other)
				fails(t, what, m, e, x.e)
			}
		}
		for _, l := range [][]api.Int{nil, {"1"}, {"x"}, {longest + "0", "1"}} {
			if image, e := matrix.Apply(x.m, l); len(image) > 0 || e != x.e {
				t.Errorf("Apply: %v, %d instead of %d", image, e, x.e)
			}
		}
	}
	for _, x := range []struct {
		a, b         api.Matrix
		add, product api.Errno
	}{
		{fit, filled(2, 3, "1"), api.ErrShape, api.OK}, {filled(2, 3, "1"), fit, api.ErrShape, api.ErrShape}, {filled(2, 3, "1"), filled(3, 2, "1"), api.ErrShape, api.OK}, {filled(2, 3, "1"), filled(2, 3, "1"), api.OK, api.ErrShape},
		{none, of(0, 1), api.ErrShape, api.OK}, {of(0, 1), none, api.ErrShape, api.ErrShape}, {of(1, 0), none, api.ErrShape, api.OK}, {of(0, 3), of(3, 0), api.ErrShape, api.OK},
		// The shape comes before what is too long.
		{filled(2, 2, longest), filled(3, 3, longest), api.ErrShape, api.ErrShape}, {filled(2, 2, longest), filled(2, 2, longest), api.ErrLarge, api.ErrLarge},
		{of(1, 1, longest), of(1, 1, "1"), api.ErrLarge, api.OK}, {of(1, 1, "-"+longest), of(1, 1, "-1"), api.ErrLarge, api.OK}, {of(1, 1, longest), of(1, 1, "-1"), api.OK, api.OK},
		{of(1, 1, ten(512)), of(1, 1, ten(512)), api.OK, api.ErrLarge}, {of(1, 1, ten(512)), of(1, 1, ten(511)), api.OK, api.OK},
		// The last entry is too long, or only a sum.
		{of(2, 1, "1", longest), of(1, 2, "1", "10"), api.ErrShape, api.ErrLarge}, {of(1, 2, longest, "1"), of(2, 1, "1", "1"), api.ErrShape, api.ErrLarge}, {of(1, 2, longest, "1"), of(2, 1, "1", "-1"), api.ErrShape, api.OK},
	} {
		m, e := matrix.Add(x.a, x.b)
		if e != x.add || e != api.OK && !matrix.Same(m, none) {
			t.Errorf("Add(%v, %v): %d instead of %d", x.a, x.b, e, x.add)
		}
		m, e = matrix.Product(x.a, x.b)
		if e != x.product || e != api.OK && !matrix.Same(m, none) {
			t.Errorf("Product(%v, %v): %d instead of %d", x.a, x.b, e, x.product)
		}
	}
}

func TestErrorsOfApply(t *testing.T) {
	for _, x := range []struct {
		m api.Matrix
		l []api.Int
		e api.Errno
	}{
		{filled(2, 3, "1"), []api.Int{"1", "2"}, api.ErrShape}, {filled(2, 3, "1"), []api.Int{"1", "2", "3", "4"}, api.ErrShape}, {none, []api.Int{"1"}, api.ErrShape}, {of(1, 1, "1"), nil, api.ErrShape},
		{filled(2, 3, "1"), []api.Int{"x", "2"}, api.ErrShape}, {filled(2, 3, "1"), slices.Repeat([]api.Int{longest + "0"}, 5000), api.ErrShape},
		{filled(2, 3, "1"), []api.Int{"1", "x", longest + "0"}, api.ErrForm}, {filled(2, 3, "1"), []api.Int{"1", longest + "0", "x"}, api.ErrLarge}, {of(0, 1), []api.Int{"01"}, api.ErrForm},
		// The integers come before what is too long.
		{filled(2, 2, longest), []api.Int{longest, "x"}, api.ErrForm}, {filled(2, 2, longest), []api.Int{longest, longest}, api.ErrLarge}, {of(2, 1, "1", "10"), []api.Int{longest}, api.ErrLarge}, {of(1, 2, "1", "1"), []api.Int{longest, "1"}, api.ErrLarge},
	} {
		if image, e := matrix.Apply(x.m, x.l); len(image) > 0 || e != x.e {
			t.Errorf("Apply(%v, %v): %v, %d instead of %d", x.m, x.l, image, e, x.e)
		}
	}
}

func TestDeterminant(t *testing.T) {
	r := rand.New(rand.NewSource(2))
	for n := range 6 {
		for range 60 {
			m := random(r, n, n, []int{1, 1, 2, 20}[r.Intn(4)])
			if want := reference(m).determinant().String(); string(must1(t)(matrix.Determinant(m))) != want {
				t.Errorf("the determinant of %v is not %s", m, want)
			}
		}
	}
	for _, x := range []struct {
		m    api.Matrix
		want api.Int
		e    api.Errno
	}{
		{none, "1", api.OK}, {ints(1, 1, -7), "-7", api.OK}, {of(1, 1, longest), longest, api.OK}, {ints(2, 2, 0, 1, 1, 0), "-1", api.OK}, {ints(2, 2, 0, 3, 0, 5), "0", api.OK}, {filled(16, 16, "0"), "0", api.OK},
		{ints(3, 3, 0, 0, 2, 0, 3, 1, 5, 1, 1), "-30", api.OK}, {ints(3, 3, 0, 1, 0, 0, 0, 1, 1, 0, 0), "1", api.OK},
		{of(0, 1), "", api.ErrShape}, {of(1, 0), "", api.ErrShape}, {filled(2, 3, "1"), "", api.ErrShape}, {filled(16, 15, longest), "", api.ErrShape},
		{of(2, 2, longest, "0", "0", "10"), "", api.ErrLarge}, {of(2, 2, ten(512), "1", "0", ten(512)), "", api.ErrLarge},
	} {
		if a, e := matrix.Determinant(x.m); a != x.want || e != x.e {
			t.Errorf("the determinant of %v is %q, %d", x.m, a, e)
		}
	}
}

// TestGreatestDeterminants has the longest results and steps for entries of 20 digits: a matrix of Hadamard, and sums of all kinds.
func TestGreatestDeterminants(t *testing.T) {
	entry := api.Int(strings.Repeat("9", 20))
	m := of(16, 16)
	for row := range 16 {
		for col := range 16 {
			sign := ""
			for both := row & col; both > 0; both &= both - 1 {
				sign = map[string]string{"": "-", "-": ""}[sign]
			}
			m.Cells = append(m.Cells, api.Int(sign)+entry)
		}
	}
	number, _ := new(big.Int).SetString(string(entry), 10)
	want := new(big.Int).Exp(number, big.NewInt(16), nil)
	want.Mul(want, new(big.Int).Exp(big.NewInt(16), big.NewInt(8), nil))
	if a, e := matrix.Determinant(m); string(a) != want.String() || e != api.OK {
		t.Errorf("the determinant is %q, %d instead of %s", a, e, want)
	}
	// An upper triangle, hidden by adding its rows to one another, has the product of its diagonal.
	r := rand.New(rand.NewSource(3))
	for range 3 {
		n := reference(random(r, 16, 16, 18))
		product := big.NewInt(1)
		for i, row := range n {
			for k := range i {
				row[k].SetInt64(0)
			}
			row[i].SetInt64(int64(r.Intn(1000) + 1))
			product.Mul(product, row[i])
		}
		for i := 15; i > 0; i-- {
			for k := range n[i] {
				n[i][k].Add(n[i][k], n[i-1][k])
			}
		}
		m := sums(16, 16, func(row, col int) *big.Int { return n[row][col] })
		if a, e := matrix.Determinant(m); string(a) != product.String() || e != api.OK {
			t.Errorf("the determinant is %q, %d instead of %s", a, e, product)
		}
	}
}

func TestRank(t *testing.T) {
	r := rand.New(rand.NewSource(4))
	for range 150 {
		m := random(r, r.Intn(5), r.Intn(5), 1)
		for i := range m.Cells {
			if r.Intn(2) == 0 {
				m.Cells[i] = "0"
			}
		}
		if k, e := matrix.Rank(m); k != reference(m).rank(m.Cols) || e != api.OK {
			t.Errorf("the rank of %v is %d, %d", m, k, e)
		}
	}
	for _, x := range []struct {
		m    api.Matrix
		want int
	}{
		{none, 0}, {of(0, 16), 0}, {of(16, 0), 0}, {filled(16, 16, "0"), 0}, {filled(16, 16, longest[:20]), 1}, {filled(1, 16, "3"), 1}, {filled(16, 1, "3"), 1}, {of(1, 1, longest), 1},
		{ints(2, 4, 0, 0, 1, 2, 0, 0, 2, 4), 1}, {ints(2, 4, 0, 0, 1, 2, 0, 0, 2, 5), 2}, {ints(3, 3, 0, 1, 2, 0, 0, 3, 0, 0, 0), 2}, {ints(3, 2, 0, 0, 0, 1, 1, 0), 2},
	} {
		if k, e := matrix.Rank(x.m); k != x.want || e != api.OK {
			t.Errorf("the rank of %v is %d, %d", x.m, k, e)
		}
	}
}

// TestLowRanks has products of known ranks, with entries of up to 20 digits.
func TestLowRanks(t *testing.T) {
	r := rand.New(rand.NewSource(5))
	for rank := range 17 {
		left, right := random(r, 16, rank, 9), random(r, rank, 16, 9)
		for i := range rank {
			for k := range i {
				left.Cells[k*rank+i], right.Cells[i*16+k] = "0", "0"
			}
			left.Cells[i*rank+i], right.Cells[i*16+i] = "999999999", "-3"
		}
		m := must(t)(matrix.Product(left, right))
		if k, e := matrix.Rank(m); k != rank || e != api.OK {
			t.Errorf("rank %d, %d instead of %d", k, e, rank)
		}
		d, e := matrix.Determinant(m)
		if e != api.OK || (d == "0") != (rank < 16) {
			t.Errorf("determinant %s, %d for the rank %d", d, e, rank)
		}
	}
}

func TestErrorsOfDeterminantAndRank(t *testing.T) {
	for _, x := range wrong() {
		if a, e := matrix.Determinant(x.m); a != "" || e != x.e {
			t.Errorf("Determinant: %q, %d instead of %d", a, e, x.e)
		}
		if k, e := matrix.Rank(x.m); k != 0 || e != x.e {
			t.Errorf("Rank: %d, %d instead of %d", k, e, x.e)
		}
	}
}

// must1 returns an integer that has no error.
func must1(t *testing.T) func(api.Int, api.Errno) api.Int {
	return func(a api.Int, e api.Errno) api.Int {
		t.Helper()
		if e != api.OK {
			t.Fatalf("the error %d", e)
		}
		return a
	}
}
