package lattice_test

import (
	"math"
	"math/big"
	"math/rand"
	"slices"
	"testing"

	"sandpile/api"
	"sandpile/lattice"
)

// Tests of P16.1 (Product) and P16.2 (Gram and Discriminant).

const most = api.MaxChips

// times returns the product of two vectors.
func times(x, y []int) int {
	sum := 0
	for i := range x {
		sum += x[i] * y[i]
	}
	return sum
}

func TestProduct(t *testing.T) {
	r := rand.New(rand.NewSource(70))
	for range 500 {
		n := r.Intn(20)
		x, y := some(r, n, []int{1, 9, most}[r.Intn(3)]), some(r, n, []int{1, 9, most}[r.Intn(3)])
		if p, e := lattice.Product(x, y); p != times(x, y) || e != api.OK {
			t.Errorf("the product of %v and %v is %d beside the error %d", x, y, p, e)
		}
	}
}

func TestProductByHand(t *testing.T) {
	long := func(n, x int) []int { return slices.Repeat([]int{x}, n) }
	for _, x := range []struct {
		x, y []int
		want int
		e    api.Errno
	}{
		{[]int{1, 2, 3}, []int{4, -5, 6}, 12, api.OK}, {nil, nil, 0, api.OK}, {[]int{}, nil, 0, api.OK}, {[]int{most}, []int{-most}, -1 << 40, api.OK}, {[]int{0, 0}, []int{most, most}, 0, api.OK}, {long(4096, 1), long(4096, 2), 8192, api.OK}, {long(4096, most), long(4096, most), 1 << 52, api.OK}, {long(4096, most), long(4096, -most), -1 << 52, api.OK},
		{nil, []int{0}, 0, api.ErrShape}, {[]int{0}, nil, 0, api.ErrShape}, {[]int{1, 2}, []int{1}, 0, api.ErrShape}, {[]int{1}, []int{1, 2}, 0, api.ErrShape}, {long(4096, 1), long(4095, 1), 0, api.ErrShape}, {long(4095, 1), long(4096, 1), 0, api.ErrShape},
		{long(4097, 0), long(4097, 0), 0, api.ErrMany}, {long(4097, 0), nil, 0, api.ErrMany}, {nil, long(4097, 0), 0, api.ErrMany}, {long(4096, 0), long(4097, 0), 0, api.ErrMany}, {long(4097, most+1), nil, 0, api.ErrMany},
		{[]int{most + 1}, []int{0}, 0, api.ErrRange}, {[]int{0}, []int{most + 1}, 0, api.ErrRange}, {[]int{-most - 1}, []int{0}, 0, api.ErrRange}, {[]int{0}, []int{-most - 1}, 0, api.ErrRange}, {[]int{0, math.MaxInt}, []int{0, 0}, 0, api.ErrRange}, {[]int{0, 0}, []int{math.MinInt, 0}, 0, api.ErrRange},
		// The errors of the first vector come first, and the length before the ints.
		{[]int{most + 1}, long(4097, 0), 0, api.ErrRange}, {[]int{most + 1}, nil, 0, api.ErrRange}, {[]int{0}, []int{0, most + 1}, 0, api.ErrShape}, {nil, long(4097, most+1), 0, api.ErrMany}, {nil, []int{most + 1}, 0, api.ErrShape},
	} {
		if p, e := lattice.Product(x.x, x.y); p != x.want || e != x.e {
			t.Errorf("the product of %.100v is %d beside the error %d", x, p, e)
		}
	}
}

// vectors returns n random vectors with the same length.
func vectors(r *rand.Rand, n, length, most int) [][]int {
	var l [][]int
	for range n {
		l = append(l, some(r, length, most))
	}
	return l
}

func TestGram(t *testing.T) {
	r := rand.New(rand.NewSource(71))
	for n := range api.MaxSide + 1 {
		for _, length := range []int{0, 1, 2, 7, 40, api.MaxEvents} {
			for _, most := range []int{1, 9999, most} {
				l := vectors(r, n, length, most)
				var want []api.Int
				for _, x := range l {
					for _, y := range l {
						want = append(want, api.Int(big.NewInt(int64(times(x, y))).String()))
					}
				}
				m, e := lattice.Gram(l)
				agrees(t, "Gram", l, m.Cells, e, want, api.OK)
				if m.Rows != n || m.Cols != n {
					t.Errorf("%d rows and %d columns for %d vectors", m.Rows, m.Cols, n)
				}
			}
		}
	}
}

func TestGramByHand(t *testing.T) {
	for _, x := range []struct {
		l    [][]int
		want []api.Int
	}{
		{[][]int{{1, -1, 1}}, []api.Int{"3"}}, {[][]int{{1, 0, -1}, {0, 1, 1}}, []api.Int{"2", "-1", "-1", "2"}}, {nil, nil}, {[][]int{{}}, []api.Int{"0"}}, {[][]int{nil, {}, nil}, slices.Repeat([]api.Int{"0"}, 9)}, {[][]int{{most}, {-most}}, []api.Int{"1099511627776", "-1099511627776", "-1099511627776", "1099511627776"}}, {[][]int{{1, 2}, {3, 4}, {5, 6}}, []api.Int{"5", "11", "17", "11", "25", "39", "17", "39", "61"}},
		{[][]int{slices.Repeat([]int{-most}, api.MaxEvents)}, []api.Int{"4503599627370496"}}, {slices.Repeat([][]int{{1}}, api.MaxSide), slices.Repeat([]api.Int{"1"}, 256)},
	} {
		m, e := lattice.Gram(x.l)
		agrees(t, "Gram", x.l, m.Cells, e, x.want, api.OK)
		if m.Rows != len(x.l) || m.Cols != len(x.l) {
			t.Errorf("%d rows and %d columns for %d vectors", m.Rows, m.Cols, len(x.l))
		}
	}
}

// TestGramErrors takes lists of vectors of which some have errors; Discriminant has the same ones.
func TestGramErrors(t *testing.T) {
	long := make([]int, api.MaxEvents+1)
	for _, x := range []struct {
		l [][]int
		e api.Errno
	}{
		{make([][]int, api.MaxSide+1), api.ErrMany}, {slices.Repeat([][]int{{1}}, api.MaxSide+1), api.ErrMany}, {slices.Repeat([][]int{{1}}, 5000), api.ErrMany}, {append(slices.Repeat([][]int{{1}}, api.MaxSide), nil), api.ErrMany}, {slices.Repeat([][]int{{most + 1}}, api.MaxSide+1), api.ErrMany}, {append([][]int{{1}, {1, 2}}, make([][]int, api.MaxSide-1)...), api.ErrMany},
		{[][]int{long}, api.ErrMany}, {[][]int{{1}, long}, api.ErrMany}, {[][]int{long, long}, api.ErrMany}, {[][]int{long, {most + 1}}, api.ErrMany}, {[][]int{slices.Repeat([]int{most + 1}, 4097)}, api.ErrMany}, {[][]int{{1}, slices.Repeat([]int{most + 1}, 4097)}, api.ErrMany},
		{[][]int{{1}, {1, 2}}, api.ErrShape}, {[][]int{{1, 2}, {1}}, api.ErrShape}, {[][]int{{1}, nil}, api.ErrShape}, {[][]int{nil, {1}}, api.ErrShape}, {[][]int{{1}, {2}, {3}, {4, 5}}, api.ErrShape}, {[][]int{{1}, {most + 1, 0}}, api.ErrShape}, {[][]int{{1, 2}, {1, 2}, {0}, {1, 2}}, api.ErrShape},
		{[][]int{{most + 1}}, api.ErrRange}, {[][]int{{-most - 1}}, api.ErrRange}, {[][]int{{0, math.MinInt}}, api.ErrRange}, {[][]int{{0, 0}, {0, math.MaxInt}}, api.ErrRange}, {[][]int{{0}, {0}, {most + 1}}, api.ErrRange}, {[][]int{{most + 1}, {most + 1}}, api.ErrRange},
		// The first vector with an error counts.
		{[][]int{{1}, {most + 1}, {1, 2}, long}, api.ErrRange}, {[][]int{{1}, {1, 2}, {most + 1}, long}, api.ErrShape}, {[][]int{{1}, long, {most + 1}, {1, 2}}, api.ErrMany}, {[][]int{{most + 1}, {1, 2}}, api.ErrRange}, {[][]int{{most + 1}, long}, api.ErrRange}, {[][]int{{1}, nil, long}, api.ErrShape},
	} {
		got := arguments{l: x.l}.calls()
		for _, name := range []string{"Gram", "Discriminant"} {
			if e := got.e[name]; e != x.e || !got.isZero(name) {
				t.Errorf("%s of %.100v has the error %d, want %d", name, x.l, e, x.e)
			}
		}
	}
}

// sides returns all lists of k of the numbers from 0 to n - 1.
func sides(n, k int) [][]int {
	var l [][]int
	for mask := range 1 << n {
		var set []int
		for i := range n {
			if mask>>i&1 == 1 {
				set = append(set, i)
			}
		}
		if len(set) == k {
			l = append(l, set)
		}
	}
	return l
}

// determinant returns the determinant of some rows and columns, along the first row.
func determinant(m [][]*big.Int, rows, cols []int) *big.Int {
	if len(rows) == 0 {
		return big.NewInt(1)
	}
	sum := new(big.Int)
	for k, col := range cols {
		term := new(big.Int).Mul(m[rows[0]][col], determinant(m, rows[1:], slices.Delete(slices.Clone(cols), k, k+1)))
		if k%2 == 1 {
			term.Neg(term)
		}
		sum.Add(sum, term)
	}
	return sum
}

// factors returns what is greater than 1 in the Smith form of the Gram matrix: the greatest common divisors of the minors with k rows, divided by those with k - 1 rows.
func factors(l [][]int) ([]api.Int, api.Errno) {
	var m [][]*big.Int
	for _, x := range l {
		var row []*big.Int
		for _, y := range l {
			row = append(row, big.NewInt(int64(times(x, y))))
		}
		m = append(m, row)
	}
	var found []api.Int
	last := big.NewInt(1)
	for k := 1; k <= len(m); k++ {
		common := new(big.Int)
		for _, rows := range sides(len(m), k) {
			for _, cols := range sides(len(m), k) {
				d := determinant(m, rows, cols)
				common.GCD(nil, nil, common, d.Abs(d))
			}
		}
		if common.Sign() == 0 {
			return nil, api.ErrZero
		}
		if d := new(big.Int).Div(common, last); d.Cmp(big.NewInt(1)) > 0 {
			found = append(found, api.Int(d.String()))
		}
		last = common
	}
	return found, api.OK
}

func TestDiscriminant(t *testing.T) {
	r := rand.New(rand.NewSource(72))
	kinds := map[int]int{}
	for range 400 {
		n := r.Intn(6)
		l := vectors(r, n, max(0, n+r.Intn(5)-1), []int{1, 2, 2, 9, 9999, most}[r.Intn(6)])
		if n > 1 && r.Intn(3) == 0 { // with common factors
			for i := range l[0] {
				l[0][i] = 6 * (l[0][i] % 1000)
				l[1][i] = 4 * (l[1][i] % 1000)
			}
		}
		if n > 2 && r.Intn(8) == 0 {
			l[2] = sum(len(l[0]), l[:2], []int{0, -1})
		}
		want, fault := factors(l)
		d, e := lattice.Discriminant(l)
		agrees(t, "Discriminant", l, d, e, want, fault)
		if fault != api.OK {
			kinds[-1]++
		} else {
			kinds[len(want)]++
		}
	}
	if kinds[-1] < 40 || kinds[0] < 40 || kinds[1] < 40 || kinds[2] < 40 || kinds[3] < 4 {
		t.Errorf("the discriminants have these lengths: %v", kinds)
	}
	for range 5 {
		l := vectors(r, 6, 9, 9999)
		want, fault := factors(l)
		d, e := lattice.Discriminant(l)
		agrees(t, "Discriminant", l, d, e, want, fault)
	}
}

func TestDiscriminantByHand(t *testing.T) {
	for _, x := range []struct {
		l    [][]int
		want []api.Int
		e    api.Errno
	}{
		{[][]int{{1, -1, 1}}, []api.Int{"3"}, api.OK}, {[][]int{{1, 0, -1}, {0, 1, 1}}, []api.Int{"3"}, api.OK}, {nil, nil, api.OK}, {[][]int{{1}}, nil, api.OK}, {[][]int{{-1}}, nil, api.OK}, {[][]int{{0, 1}, {1, 0}}, nil, api.OK}, {[][]int{{0, 2}, {1, 0}}, []api.Int{"4"}, api.OK}, {[][]int{{0, 2}, {2, 0}}, []api.Int{"4", "4"}, api.OK}, {[][]int{{2, 0}, {0, 3}}, []api.Int{"36"}, api.OK}, {[][]int{{6, 0}, {0, 4}}, []api.Int{"4", "144"}, api.OK}, {[][]int{{1, 1}, {1, -1}}, []api.Int{"2", "2"}, api.OK}, {[][]int{{most}}, []api.Int{"1099511627776"}, api.OK},
		// Dependent vectors.
		{[][]int{{}}, nil, api.ErrZero}, {[][]int{{0}}, nil, api.ErrZero}, {[][]int{{0, 0}, {1, 0}}, nil, api.ErrZero}, {[][]int{{1, 2}, {1, 2}}, nil, api.ErrZero}, {[][]int{{1, 2}, {-2, -4}}, nil, api.ErrZero}, {[][]int{{1}, {2}}, nil, api.ErrZero}, {[][]int{{1, 0, 1}, {0, 1, 1}, {1, 1, 2}}, nil, api.ErrZero}, {[][]int{{most, 0}, {0, most}, {most, most}}, nil, api.ErrZero}, {slices.Repeat([][]int{{1, 2, 3}}, api.MaxSide), nil, api.ErrZero},
	} {
		d, e := lattice.Discriminant(x.l)
		agrees(t, "Discriminant", x.l, d, e, x.want, x.e)
	}
}
