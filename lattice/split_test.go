package lattice_test

import (
	"math/big"
	"math/rand"
	"testing"

	"sandpile/api"
	"sandpile/fraction"
	"sandpile/lattice"
)

// Tests of P16.2 (Split).

// numbers returns fractions in lowest terms as rational numbers.
func numbers(t *testing.T, l []api.Frac) []*big.Rat {
	t.Helper()
	var found []*big.Rat
	for _, a := range l {
		if e := fraction.Check(a); e != api.OK {
			t.Fatalf("%v has the error %d", a, e)
		}
		r, _ := new(big.Rat).SetString(string(a.Num + "/" + a.Den))
		found = append(found, r)
	}
	return found
}

// isSplit checks what defines the parts of a vector: they add up to it, one has the boundary 0, and one is a coboundary.
func isSplit(t *testing.T, g api.Graph, x []int, cycle, cut []api.Frac) {
	t.Helper()
	c, d := numbers(t, cycle), numbers(t, cut)
	if len(c) != len(x) || len(d) != len(x) {
		t.Fatalf("%v is split into %v and %v", x, cycle, cut)
	}
	for e, n := range rats(x) {
		if new(big.Rat).Add(c[e], d[e]).Cmp(n) != 0 {
			t.Errorf("%v and %v are the parts of %v", cycle[e], cut[e], n)
		}
	}
	if !isClosed(g, c) || !isDifference(g, d) {
		t.Errorf("%v on %v is split into %v and %v", x, g, cycle, cut)
	}
}

func TestSplit(t *testing.T) {
	r := rand.New(rand.NewSource(73))
	for _, g := range whole() {
		for _, most := range []int{1, 5, 9999} {
			x := some(r, len(ends(g)), most)
			cycle, cut, e := lattice.Split(g, x)
			if e != api.OK {
				t.Fatalf("%v on %v has the error %d", x, g, e)
			}
			isSplit(t, g, x, cycle, cut)
		}
	}
}

// TestSplitOfLarge takes larger graphs and numbers, for which ErrLarge is allowed.
func TestSplitOfLarge(t *testing.T) {
	r := rand.New(rand.NewSource(74))
	for _, g := range samples() {
		x := some(r, len(ends(g)), api.MaxChips)
		cycle, cut, e := lattice.Split(g, x)
		switch e {
		case api.OK:
			isSplit(t, g, x, cycle, cut)
		case api.ErrLarge:
			if len(cycle) > 0 || len(cut) > 0 {
				t.Errorf("%v and %v beside an error", cycle, cut)
			}
		default:
			t.Errorf("%v on %v has the error %d", x, g, e)
		}
	}
}

func TestSplitByHand(t *testing.T) {
	for _, x := range []struct {
		g          api.Graph
		x          []int
		cycle, cut []string
	}{
		{triangle(), []int{1, 0, 0}, []string{"1/3", "-1/3", "1/3"}, []string{"2/3", "1/3", "-1/3"}}, {triangle(), []int{0, 0, 3}, []string{"1", "-1", "1"}, []string{"-1", "1", "2"}}, {triangle(), []int{2, -2, 2}, []string{"2", "-2", "2"}, []string{"0", "0", "0"}}, {triangle(), []int{1, 3, 2}, []string{"0", "0", "0"}, []string{"1", "3", "2"}}, {triangle(), []int{0, 0, 0}, []string{"0", "0", "0"}, []string{"0", "0", "0"}},
		{edges(1), nil, nil, nil}, {edges(1, edge(0, 0, 2)), []int{3, -4}, []string{"3", "-4"}, []string{"0", "0"}}, {edges(2, edge(0, 1, 1)), []int{7}, []string{"0"}, []string{"7"}}, {edges(2, edge(0, 1, 4)), []int{1, 0, 0, 2}, []string{"1/4", "-3/4", "-3/4", "5/4"}, []string{"3/4", "3/4", "3/4", "3/4"}}, {edges(2, edge(0, 0, 1), edge(0, 1, 2), edge(1, 1, 1)), []int{5, 1, 0, 6}, []string{"5", "1/2", "-1/2", "6"}, []string{"0", "1/2", "1/2", "0"}}, {crooked(), []int{1, 2, 3, -4}, []string{"0", "0", "0", "0"}, []string{"1", "2", "3", "-4"}},
	} {
		cycle, cut, e := lattice.Split(x.g, x.x)
		agrees(t, "Split", x, texts(t, cycle), e, x.cycle, api.OK)
		agrees(t, "Split", x, texts(t, cut), e, x.cut, api.OK)
	}
}

// texts returns the texts of fractions.
func texts(t *testing.T, l []api.Frac) []string {
	var found []string
	for _, a := range l {
		found = append(found, must[string](t)(fraction.Text(a)))
	}
	return found
}
