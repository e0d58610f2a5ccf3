package laplacian_test

import (
	"math"
	"math/rand"
	"slices"
	"testing"

	"sandpile/api"
	"sandpile/laplacian"
)

// Tests of P15.1.

// TestGraphErrors calls all functions with graphs that are not in normal form: this error comes before that of any other argument.
func TestGraphErrors(t *testing.T) {
	for _, x := range wrong() {
		for _, s := range []api.Script{nil, {0}, {0, 0, 0}, {api.MaxChips + 1, 0, 0}, {api.MaxChips, 0, -api.MaxChips}, make(api.Script, 12)} {
			for _, n := range []int{0, 1, -1, math.MinInt, math.MaxInt} {
				got := arguments{x.g, s, n, n, n}.calls()
				if len(got.e) != 6 {
					t.Fatalf("%d functions are called", len(got.e))
				}
				for name, e := range got.e {
					if e != x.e || !got.isZero(name) {
						t.Errorf("%s of %.200v has the error %d, want %d", name, x.g, e, x.e)
					}
				}
			}
		}
	}
}

func TestFullAndReduced(t *testing.T) {
	for _, g := range samples() {
		want := rows(g)
		m, e := laplacian.Full(g)
		agreesMatrix(t, "Full", g, m, e, want)
		for q := range g.N {
			m, e := laplacian.Reduced(g, q)
			agreesMatrix(t, "Reduced", []any{g, q}, m, e, cut(want, q, q))
		}
		for _, q := range outside(g.N) {
			got := arguments{g: g, row: q}.calls()
			if e := got.e["Reduced"]; e != api.ErrRange || !got.isZero("Reduced") {
				t.Errorf("Reduced of %v at %d has the error %d", g, q, e)
			}
		}
	}
}

func TestFullByHand(t *testing.T) {
	for _, x := range []struct {
		g    api.Graph
		want [][]int
	}{
		{example(), [][]int{{2, -1, -1}, {-1, 3, -2}, {-1, -2, 3}}}, {looped(), [][]int{{3, -2, -1, 0}, {-2, 3, -1, 0}, {-1, -1, 3, -1}, {0, 0, -1, 1}}}, {edges(1), [][]int{{0}}}, {edges(1, edge(0, 0, 50)), [][]int{{0}}}, {edges(2), [][]int{{0, 0}, {0, 0}}}, {edges(2, edge(0, 0, 3), edge(0, 1, 50), edge(1, 1, 1)), [][]int{{50, -50}, {-50, 50}}},
		{edges(4, edge(0, 2, 2), edge(1, 3, 3)), [][]int{{2, 0, -2, 0}, {0, 3, 0, -3}, {-2, 0, 2, 0}, {0, -3, 0, 3}}}, {edges(3, edge(1, 1, 5)), [][]int{{0, 0, 0}, {0, 0, 0}, {0, 0, 0}}},
	} {
		m, e := laplacian.Full(x.g)
		agreesMatrix(t, "Full", x.g, m, e, x.want)
	}
}

func TestReducedByHand(t *testing.T) {
	for _, x := range []struct {
		g    api.Graph
		q    int
		want [][]int
	}{
		{example(), 0, [][]int{{3, -2}, {-2, 3}}}, {example(), 1, [][]int{{2, -1}, {-1, 3}}}, {example(), 2, [][]int{{2, -1}, {-1, 3}}}, {looped(), 3, [][]int{{3, -2, -1}, {-2, 3, -1}, {-1, -1, 3}}}, {looped(), 1, [][]int{{3, -1, 0}, {-1, 3, -1}, {0, -1, 1}}},
		{edges(1), 0, nil}, {edges(1, edge(0, 0, 2)), 0, nil}, {edges(2), 1, [][]int{{0}}}, {edges(2, edge(0, 1, 7)), 0, [][]int{{7}}}, {edges(2, edge(0, 1, 7)), 1, [][]int{{7}}},
	} {
		m, e := laplacian.Reduced(x.g, x.q)
		agreesMatrix(t, "Reduced", x, m, e, x.want)
	}
}

func TestImage(t *testing.T) {
	r := rand.New(rand.NewSource(62))
	inside := 0
	for _, g := range samples() {
		for _, most := range []int{1, 5, 2000, api.MaxChips} {
			s := make(api.Script, g.N)
			for v := range s {
				s[v] = r.Intn(2*most+1) - most
			}
			// What each single edge moves is added up.
			want, fault := make(api.Divisor, g.N), api.OK
			for _, x := range ends(g) {
				want[x[0]] += s[x[0]] - s[x[1]]
				want[x[1]] += s[x[1]] - s[x[0]]
			}
			if slices.Max(want) > api.MaxChips || slices.Min(want) < -api.MaxChips {
				want, fault = nil, api.ErrLarge
			} else {
				inside++
			}
			d, e := laplacian.Image(g, s)
			agreesImage(t, []any{g, s}, d, e, want, fault)
		}
	}
	if inside < 900 {
		t.Errorf("only %d images are in their range", inside)
	}
}

func TestImageByHand(t *testing.T) {
	for _, x := range []struct {
		g    api.Graph
		s    api.Script
		want api.Divisor
	}{
		{example(), api.Script{1, 0, 0}, api.Divisor{2, -1, -1}}, {example(), api.Script{0, 1, 0}, api.Divisor{-1, 3, -2}}, {example(), api.Script{0, 0, -1}, api.Divisor{1, 2, -3}}, {example(), api.Script{1, 2, 3}, api.Divisor{-3, -1, 4}}, {example(), api.Script{0, 0, 0}, api.Divisor{0, 0, 0}},
		{looped(), api.Script{1, 0, 0, 0}, api.Divisor{3, -2, -1, 0}}, {looped(), api.Script{0, 0, 0, 4}, api.Divisor{0, 0, -4, 4}}, {edges(1, edge(0, 0, 50)), api.Script{api.MaxChips}, api.Divisor{0}}, {edges(1), api.Script{-api.MaxChips}, api.Divisor{0}}, {edges(2), api.Script{api.MaxChips, -api.MaxChips}, api.Divisor{0, 0}}, {edges(4, edge(0, 2, 2), edge(1, 3, 3)), api.Script{1, 10, 2, 30}, api.Divisor{-2, -60, 2, 60}},
	} {
		d, e := laplacian.Image(x.g, x.s)
		agreesImage(t, x, d, e, x.want, api.OK)
	}
}

func TestImageErrors(t *testing.T) {
	const most = api.MaxChips
	for _, x := range []struct {
		s api.Script
		e api.Errno
	}{
		// Too few and too many elements, whatever they are.
		{nil, api.ErrShape}, {api.Script{}, api.ErrShape}, {api.Script{0, 0}, api.ErrShape}, {api.Script{0, 0, 0, 0}, api.ErrShape}, {make(api.Script, 5000), api.ErrShape}, {api.Script{most + 1, 0}, api.ErrShape}, {api.Script{most, -most}, api.ErrShape}, {api.Script{0, 0, 0, math.MaxInt}, api.ErrShape},
		// Elements out of their range, also where the image is not, or is out of its range, too.
		{api.Script{most + 1, 0, 0}, api.ErrRange}, {api.Script{0, most + 1, 0}, api.ErrRange}, {api.Script{0, 0, most + 1}, api.ErrRange}, {api.Script{-most - 1, 0, 0}, api.ErrRange}, {api.Script{0, 0, -most - 1}, api.ErrRange}, {api.Script{most + 1, most + 1, most + 1}, api.ErrRange}, {api.Script{-most - 1, -most - 1, -most - 1}, api.ErrRange}, {api.Script{most, -most, most + 1}, api.ErrRange}, {api.Script{math.MinInt, 0, 0}, api.ErrRange}, {api.Script{0, math.MaxInt, 0}, api.ErrRange}, {api.Script{math.MaxInt, math.MaxInt, math.MaxInt}, api.ErrRange}, {api.Script{math.MinInt, math.MinInt, math.MinInt}, api.ErrRange},
		{api.Script{most, 0, 0}, api.ErrLarge}, {api.Script{most, -most, most}, api.ErrLarge}, {api.Script{0, 0, -most}, api.ErrLarge},
		{api.Script{most, most, most}, api.OK}, {api.Script{-most, -most, -most}, api.OK}, {api.Script{most, most, most - 5}, api.OK},
	} {
		got := arguments{g: example(), s: x.s}.calls()
		if e := got.e["Image"]; e != x.e || e != api.OK && !got.isZero("Image") {
			t.Errorf("Image of %.100v has the error %d, want %d", x.s, e, x.e)
		}
	}
	// Vertices without single edges count, too.
	d, e := laplacian.Image(edges(2), api.Script{0, most + 1})
	agreesImage(t, "edges(2)", d, e, nil, api.ErrRange)
	d, e = laplacian.Image(edges(1), api.Script{-most - 1})
	agreesImage(t, "edges(1)", d, e, nil, api.ErrRange)
}

// TestImageLimits takes images that are just inside and just outside of their range.
func TestImageLimits(t *testing.T) {
	const most = api.MaxChips
	pair := edges(2, edge(0, 1, 1))
	for _, x := range []struct {
		g    api.Graph
		s    api.Script
		want api.Divisor
		e    api.Errno
	}{
		{pair, api.Script{most, 0}, api.Divisor{most, -most}, api.OK}, {pair, api.Script{0, most}, api.Divisor{-most, most}, api.OK}, {pair, api.Script{-most, 0}, api.Divisor{-most, most}, api.OK}, {pair, api.Script{most / 2, -most / 2}, api.Divisor{most, -most}, api.OK}, {pair, api.Script{most, -1}, nil, api.ErrLarge}, {pair, api.Script{-1, most}, nil, api.ErrLarge}, {pair, api.Script{-most, 1}, nil, api.ErrLarge}, {pair, api.Script{most/2 + 1, -most / 2}, nil, api.ErrLarge}, {pair, api.Script{most, -most}, nil, api.ErrLarge},
		{edges(2, edge(0, 1, 50)), api.Script{20971, 0}, api.Divisor{1048550, -1048550}, api.OK}, {edges(2, edge(0, 1, 50)), api.Script{20972, 0}, nil, api.ErrLarge}, {edges(2, edge(0, 1, 2)), api.Script{0, most / 2}, api.Divisor{-most, most}, api.OK}, {edges(2, edge(0, 1, 2)), api.Script{0, most/2 + 1}, nil, api.ErrLarge},
		{full(12, 50), append(api.Script{1906}, make(api.Script, 11)...), append(api.Divisor{1048300}, slices.Repeat(api.Divisor{-95300}, 11)...), api.OK}, {full(12, 50), append(api.Script{1907}, make(api.Script, 11)...), nil, api.ErrLarge}, {full(12, 50), append(make(api.Script, 11), -1907), nil, api.ErrLarge},
	} {
		d, e := laplacian.Image(x.g, x.s)
		agreesImage(t, x, d, e, x.want, x.e)
	}
	// Only one vertex, be it the first or the last one, has too many or too few.
	for center := range 5 {
		for _, n := range []int{most / 4, -most / 4} {
			s, want := make(api.Script, 5), slices.Repeat(api.Divisor{-n}, 5)
			s[center], want[center] = n, 4*n
			d, e := laplacian.Image(star(5, center), s)
			agreesImage(t, s, d, e, want, api.OK)
			s[center] += n / (most / 4)
			d, e = laplacian.Image(star(5, center), s)
			agreesImage(t, s, d, e, nil, api.ErrLarge)
		}
	}
}
