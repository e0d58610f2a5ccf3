package matrix_test

import (
	"math/big"
	"math/rand"
	"slices"
	"testing"

	"sandpile/api"
	"sandpile/integer"
	"sandpile/matrix"
)

// Tests of P3.3, and of P1 for package matrix.

func TestLawsOfDeterminants(t *testing.T) {
	r := rand.New(rand.NewSource(6))
	is, number := must(t), must1(t)
	det := func(m api.Matrix) api.Int { return number(matrix.Determinant(m)) }
	for range 200 {
		n, digits := r.Intn(7), []int{1, 3, 20}[r.Intn(3)]
		a, b := random(r, n, n, digits), random(r, n, n, digits)
		if r.Intn(4) == 0 && n > 1 {
			copy(a.Cells[n:2*n], a.Cells[:n])
		}
		// Entries of 20 digits have products whose determinants may be too large.
		if digits < 20 && det(is(matrix.Product(a, b))) != number(integer.Mul(det(a), det(b))) {
			t.Errorf("the determinant of the product of %v and %v", a, b)
		}
		if det(is(matrix.Transpose(a))) != det(a) {
			t.Errorf("the determinant of %v transposed", a)
		}
		if n < 2 {
			continue
		}
		i := r.Intn(n)
		k := (i + 1 + r.Intn(n-1)) % n
		if det(exchanged(a, i, k)) != number(integer.Neg(det(a))) {
			t.Errorf("the determinant of %v with rows exchanged", a)
		}
		if factor := integer.Of(r.Intn(19) - 9); digits < 20 && det(added(a, i, k, factor)) != det(a) {
			t.Errorf("the determinant of %v with %s times the row %d added to the row %d", a, factor, k, i)
		}
	}
}

// exchanged returns a matrix with two rows exchanged.
func exchanged(m api.Matrix, i, k int) api.Matrix {
	m.Cells = slices.Clone(m.Cells)
	for col := range m.Cols {
		a, b := i*m.Cols+col, k*m.Cols+col
		m.Cells[a], m.Cells[b] = m.Cells[b], m.Cells[a]
	}
	return m
}

// added returns a matrix with a multiple of the row k added to the row i.
func added(m api.Matrix, i, k int, factor api.Int) api.Matrix {
	m.Cells = slices.Clone(m.Cells)
	for col := range m.Cols {
		multiple, _ := integer.Mul(factor, m.Cells[k*m.Cols+col])
		m.Cells[i*m.Cols+col], _ = integer.Add(m.Cells[i*m.Cols+col], multiple)
	}
	return m
}

func TestRankOfProducts(t *testing.T) {
	r := rand.New(rand.NewSource(7))
	rank := func(m api.Matrix) int {
		k, e := matrix.Rank(m)
		if e != api.OK {
			t.Fatalf("the error %d", e)
		}
		return k
	}
	for range 200 {
		rows, inner, cols := r.Intn(7), r.Intn(7), r.Intn(7)
		a, b := random(r, rows, inner, 2), random(r, inner, cols, 2)
		product := must(t)(matrix.Product(a, b))
		if k := rank(product); k > rank(a) || k > rank(b) || k > inner {
			t.Errorf("the rank of the product of %v and %v is %d", a, b, k)
		}
		if rank(must(t)(matrix.Transpose(a))) != rank(a) {
			t.Errorf("the rank of %v transposed", a)
		}
	}
}

func TestCofactors(t *testing.T) {
	r := rand.New(rand.NewSource(8))
	is, number := must(t), must1(t)
	for range 60 {
		n := r.Intn(5) + 1
		m := random(r, n, n, 3)
		cofactors := of(n, n)
		for row := range n {
			for col := range n {
				// The cofactors are transposed.
				a := number(matrix.Determinant(is(matrix.Minor(m, col, row))))
				if (row+col)%2 == 1 {
					a = number(integer.Neg(a))
				}
				cofactors.Cells = append(cofactors.Cells, a)
			}
		}
		det := number(matrix.Determinant(m))
		want := is(matrix.Unit(n))
		for i := range want.Cells {
			want.Cells[i] = number(integer.Mul(want.Cells[i], det))
		}
		if !matrix.Same(is(matrix.Product(m, cofactors)), want) || !matrix.Same(is(matrix.Product(cofactors, m)), want) {
			t.Errorf("the cofactors of %v", m)
		}
	}
}

func TestLawsOfProducts(t *testing.T) {
	r := rand.New(rand.NewSource(9))
	is := must(t)
	add := func(a, b api.Matrix) api.Matrix { return is(matrix.Add(a, b)) }
	mul := func(a, b api.Matrix) api.Matrix { return is(matrix.Product(a, b)) }
	turn := func(a api.Matrix) api.Matrix { return is(matrix.Transpose(a)) }
	for range 100 {
		p, q, s, u := r.Intn(5), r.Intn(5), r.Intn(5), r.Intn(5)
		a, b, c, d := random(r, p, q, 30), random(r, q, s, 30), random(r, s, u, 30), random(r, q, s, 30)
		for i, law := range [][2]api.Matrix{
			{mul(mul(a, b), c), mul(a, mul(b, c))},
			{mul(a, add(b, d)), add(mul(a, b), mul(a, d))},
			{add(b, d), add(d, b)},
			{turn(mul(a, b)), mul(turn(b), turn(a))},
			{turn(turn(a)), a},
			{mul(is(matrix.Unit(p)), a), a},
			{mul(a, is(matrix.Unit(q))), a},
			{add(a, filled(p, q, "0")), a},
		} {
			if !matrix.Same(law[0], law[1]) {
				t.Errorf("law %d: %v and %v", i, law[0], law[1])
			}
		}
	}
}

// TestTotal calls every function with all kinds of arguments: a panic fails the test, and a result is either right or zero beside an error.
func TestTotal(t *testing.T) {
	r := rand.New(rand.NewSource(10))
	list := []api.Matrix{none, of(0, 16), of(16, 0), filled(16, 16, longest), random(r, 16, 16, 40), random(r, 16, 16, 400), random(r, 3, 3, 1024), random(r, 5, 2, 9)}
	for _, x := range wrong() {
		list = append(list, x.m)
	}
	sound := func(m api.Matrix, e api.Errno) {
		t.Helper()
		if e == api.OK && matrix.Check(m) != api.OK || e != api.OK && !matrix.Same(m, none) {
			t.Errorf("%v beside the error %d", m, e)
		}
	}
	for _, a := range list {
		for _, b := range list {
			sound(matrix.Add(a, b))
			sound(matrix.Product(a, b))
			if l, e := matrix.Apply(a, b.Cells); e == api.OK && len(l) != a.Rows || e != api.OK && len(l) > 0 {
				t.Errorf("%v beside the error %d", l, e)
			}
			matrix.Same(a, b)
		}
		sound(matrix.Transpose(a))
		sound(matrix.Minor(a, 1, 1))
		d, e := matrix.Determinant(a)
		if e == api.OK && integer.Check(d) != api.OK || e != api.OK && d != "" {
			t.Errorf("%q beside the error %d", d, e)
		}
		if k, e := matrix.Rank(a); k < 0 || k > 16 || e != api.OK && k > 0 {
			t.Errorf("%d beside the error %d", k, e)
		}
	}
}

// TestMemory changes results of operations, and looks at the arguments and at other results.
func TestMemory(t *testing.T) {
	cells := append(make([]api.Int, 0, 20), "2", "1", "7", "4")
	spare := cells[:20]
	m := api.Matrix{Rows: 2, Cols: 2, Cells: cells}
	column := spare[:2]
	sum, _ := matrix.Add(m, m)
	product, _ := matrix.Product(m, m)
	image, _ := matrix.Apply(m, column)
	matrix.Determinant(m)
	matrix.Rank(m)
	unit, _ := matrix.Unit(2)
	again, _ := matrix.Unit(2)
	for _, l := range [][]api.Int{sum.Cells, product.Cells, image, unit.Cells} {
		for i := range l {
			l[i] = "x"
		}
		_ = append(l, "y")
	}
	if !slices.Equal(spare[:4], []api.Int{"2", "1", "7", "4"}) || !slices.Equal(spare[4:], make([]api.Int, 16)) {
		t.Errorf("the argument is now %v", spare)
	}
	same(t, "Unit", again, api.OK, ints(2, 2, 1, 0, 0, 1))
	if d, e := matrix.Determinant(m); d != "1" || e != api.OK || reference(m).determinant().Cmp(big.NewInt(1)) != 0 {
		t.Errorf("the determinant is %q, %d", d, e)
	}
}
