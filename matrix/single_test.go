package matrix_test

import (
	"math"
	"slices"
	"testing"

	"sandpile/api"
	"sandpile/matrix"
)

// Tests of P3.1.

func TestCheck(t *testing.T) {
	for _, m := range []api.Matrix{
		none, of(0, 0), of(0, 16), of(16, 0), {Rows: 3, Cells: []api.Int{}}, of(1, 1, "0"), of(1, 1, longest), of(1, 1, "-"+longest), filled(16, 16, longest), ints(2, 3, 1, 2, 3, 4, 5, 6),
	} {
		if e := matrix.Check(m); e != api.OK {
			t.Errorf("Check(%d, %d) = %d", m.Rows, m.Cols, e)
		}
	}
	for i, x := range wrong() {
		if e := matrix.Check(x.m); e != x.e {
			t.Errorf("wrong matrix %d: %d instead of %d", i, e, x.e)
		}
	}
}

func TestMake(t *testing.T) {
	for _, x := range []struct {
		rows, cols int
		l          []int
		want       api.Matrix
		e          api.Errno
	}{
		{0, 0, nil, of(0, 0), api.OK}, {0, 16, []int{}, of(0, 16), api.OK}, {16, 0, nil, of(16, 0), api.OK},
		{2, 3, []int{1, -2, 3, 0, 5, 6}, of(2, 3, "1", "-2", "3", "0", "5", "6"), api.OK},
		{3, 2, []int{1, -2, 3, 0, 5, 6}, of(3, 2, "1", "-2", "3", "0", "5", "6"), api.OK},
		{1, 2, []int{math.MaxInt, math.MinInt}, of(1, 2, "9223372036854775807", "-9223372036854775808"), api.OK},
		{16, 16, make([]int, 256), filled(16, 16, "0"), api.OK},
		{-1, 0, nil, none, api.ErrRange}, {0, -1, nil, none, api.ErrRange}, {17, 1, make([]int, 17), none, api.ErrRange}, {1, 17, make([]int, 17), none, api.ErrRange},
		{-1, -1, []int{1}, none, api.ErrRange}, {17, 0, []int{1}, none, api.ErrRange}, {math.MinInt, math.MaxInt, nil, none, api.ErrRange}, {1 << 32, 1 << 32, nil, none, api.ErrRange},
		{1, 1, nil, none, api.ErrShape}, {0, 0, []int{1}, none, api.ErrShape}, {2, 2, make([]int, 3), none, api.ErrShape}, {2, 2, make([]int, 5), none, api.ErrShape},
	} {
		m, e := matrix.Make(x.rows, x.cols, x.l)
		if !matrix.Same(m, x.want) || e != x.e {
			t.Errorf("Make(%d, %d, %v) = %v, %d", x.rows, x.cols, x.l, m, e)
		}
	}
}

func TestUnit(t *testing.T) {
	for n := range api.MaxSide + 1 {
		want := filled(n, n, "0")
		for i := range n {
			want.Cells[i*n+i] = "1"
		}
		m, e := matrix.Unit(n)
		same(t, "Unit", m, e, want)
	}
	for _, n := range []int{-1, 17, math.MaxInt, math.MinInt} {
		m, e := matrix.Unit(n)
		fails(t, "Unit", m, e, api.ErrRange)
	}
}

func TestGet(t *testing.T) {
	m := ints(2, 3, 1, 2, 3, 4, 5, 6)
	for row := -2; row <= 4; row++ {
		for col := -2; col <= 4; col++ {
			want, e := api.Int(""), api.ErrNone
			if row >= 0 && row < 2 && col >= 0 && col < 3 {
				want, e = m.Cells[row*3+col], api.OK
			}
			if a, f := matrix.Get(m, row, col); a != want || f != e {
				t.Errorf("Get(%d, %d) = %q, %d", row, col, a, f)
			}
		}
	}
	for _, x := range []struct {
		m        api.Matrix
		row, col int
	}{{none, 0, 0}, {of(0, 5), 0, 2}, {of(5, 0), 2, 0}, {m, math.MaxInt, 0}, {m, 0, math.MinInt}, {m, math.MinInt, math.MaxInt}} {
		if a, e := matrix.Get(x.m, x.row, x.col); a != "" || e != api.ErrNone {
			t.Errorf("Get(%d, %d) = %q, %d", x.row, x.col, a, e)
		}
	}
}

func TestMinor(t *testing.T) {
	m := ints(3, 4, 1, 2, 3, 4, 5, 6, 7, 8, 9, 10, 11, 12)
	for _, x := range []struct {
		m        api.Matrix
		row, col int
		want     api.Matrix
	}{
		{m, 0, 0, ints(2, 3, 6, 7, 8, 10, 11, 12)}, {m, 1, 2, ints(2, 3, 1, 2, 4, 9, 10, 12)}, {m, 2, 3, ints(2, 3, 1, 2, 3, 5, 6, 7)}, {m, 0, 3, ints(2, 3, 5, 6, 7, 9, 10, 11)}, {m, 2, 0, ints(2, 3, 2, 3, 4, 6, 7, 8)},
		{ints(1, 1, 7), 0, 0, of(0, 0)}, {ints(1, 3, 1, 2, 3), 0, 1, of(0, 2)}, {ints(3, 1, 1, 2, 3), 1, 0, of(2, 0)},
	} {
		got, e := matrix.Minor(x.m, x.row, x.col)
		same(t, "Minor", got, e, x.want)
	}
	for _, x := range []struct {
		m        api.Matrix
		row, col int
	}{{m, -1, 0}, {m, 0, -1}, {m, 3, 0}, {m, 0, 4}, {m, 3, 4}, {none, 0, 0}, {of(0, 5), 0, 2}, {of(5, 0), 2, 0}, {m, math.MaxInt, math.MinInt}} {
		got, e := matrix.Minor(x.m, x.row, x.col)
		fails(t, "Minor", got, e, api.ErrNone)
	}
	big := filled(16, 16, "1")
	got, e := matrix.Minor(big, 15, 0)
	same(t, "Minor", got, e, filled(15, 15, "1"))
}

func TestTranspose(t *testing.T) {
	for _, x := range []struct{ m, want api.Matrix }{
		{none, of(0, 0)}, {of(0, 7), of(7, 0)}, {of(16, 0), of(0, 16)}, {ints(1, 1, 5), ints(1, 1, 5)}, {ints(2, 2, 1, 2, 3, 4), ints(2, 2, 1, 3, 2, 4)}, {ints(2, 3, 1, 2, 3, 4, 5, 6), ints(3, 2, 1, 4, 2, 5, 3, 6)}, {ints(1, 3, 7, 8, 9), ints(3, 1, 7, 8, 9)},
	} {
		got, e := matrix.Transpose(x.m)
		same(t, "Transpose", got, e, x.want)
	}
}

func TestSame(t *testing.T) {
	list := []api.Matrix{
		none, of(0, 1), of(1, 0), of(0, 5), of(5, 0), ints(1, 1, 0), ints(1, 1, 1), ints(2, 3, 1, 2, 3, 4, 5, 6), ints(3, 2, 1, 2, 3, 4, 5, 6), ints(1, 6, 1, 2, 3, 4, 5, 6), ints(2, 3, 1, 2, 3, 4, 5, 7), ints(2, 3, 0, 2, 3, 4, 5, 6),
	}
	for _, x := range wrong() {
		list = append(list, x.m)
	}
	for i, a := range list {
		for k, b := range list {
			if matrix.Same(a, b) != (i == k) {
				t.Errorf("Same(%v, %v)", a, b)
			}
		}
		a.Cells = append(make([]api.Int, 0, len(a.Cells)+3), a.Cells...)
		if !matrix.Same(a, list[i]) {
			t.Errorf("%v is not the same in other memory", a)
		}
	}
}

func TestErrorsOfOne(t *testing.T) {
	for _, x := range wrong() {
		for _, at := range [][2]int{{0, 0}, {-1, 5}} {
			if a, e := matrix.Get(x.m, at[0], at[1]); a != "" || e != x.e {
				t.Errorf("Get: %q, %d instead of %d", a, e, x.e)
			}
			m, e := matrix.Minor(x.m, at[0], at[1])
			fails(t, "Minor", m, e, x.e)
		}
		m, e := matrix.Transpose(x.m)
		fails(t, "Transpose", m, e, x.e)
	}
}

// TestMemoryOfOne changes results, and looks at the arguments.
func TestMemoryOfOne(t *testing.T) {
	cells := append(make([]api.Int, 0, 40), "1", "2", "3", "4", "5", "6")
	spare := cells[:40]
	m := of(2, 3, cells...)
	m.Cells = cells
	transposed, _ := matrix.Transpose(m)
	minor, _ := matrix.Minor(m, 0, 0)
	matrix.Get(m, 1, 1)
	for _, r := range []api.Matrix{transposed, minor} {
		for i := range r.Cells {
			r.Cells[i] = "x"
		}
		_ = append(r.Cells, "y")
	}
	if !slices.Equal(spare[:6], []api.Int{"1", "2", "3", "4", "5", "6"}) || !slices.Equal(spare[6:], make([]api.Int, 34)) {
		t.Errorf("the argument is now %v", spare)
	}
	l := []int{1, 2}
	if matrix.Make(1, 2, l); !slices.Equal(l, []int{1, 2}) {
		t.Errorf("the argument is now %v", l)
	}
}
