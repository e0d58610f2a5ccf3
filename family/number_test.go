package family_test

import (
	"testing"

	"sandpile/api"
	"sandpile/family"
)

// Tests of P11.2.

func TestNumbers(t *testing.T) {
	for _, x := range right() {
		g := x.graph()
		genus := 1 - g.N
		for _, e := range g.Edges {
			genus += e.Mult
		}
		n, e := family.Genus(x.kind, x.sizes)
		agrees(t, "Genus", x, n, e, genus, api.OK)
		trees, orders, fault := x.trees(), x.orders(), api.OK
		if x.kind == family.Grid {
			trees, orders, fault = 0, nil, api.ErrState
		}
		n, e = family.Trees(x.kind, x.sizes)
		agrees(t, "Trees", x, n, e, trees, fault)
		agreesOrders(t, x, orders, fault)
	}
}

func TestNumbersByHand(t *testing.T) {
	for _, x := range []struct {
		kind         int
		sizes        []int
		genus, trees int
		orders       []int
	}{
		{family.Path, []int{1}, 0, 1, nil}, {family.Path, []int{12}, 0, 1, nil},
		{family.Cycle, []int{1}, 1, 1, nil}, {family.Cycle, []int{2}, 1, 2, []int{2}}, {family.Cycle, []int{12}, 1, 12, []int{12}},
		{family.Star, []int{1}, 0, 1, nil}, {family.Star, []int{11}, 0, 1, nil},
		{family.Complete, []int{1}, 0, 1, nil}, {family.Complete, []int{2}, 0, 1, nil}, {family.Complete, []int{3}, 1, 3, []int{3}}, {family.Complete, []int{4}, 3, 16, []int{4, 4}}, {family.Complete, []int{12}, 55, 61917364224, []int{12, 12, 12, 12, 12, 12, 12, 12, 12, 12}},
		{family.Banana, []int{1}, 0, 1, nil}, {family.Banana, []int{2}, 1, 2, []int{2}}, {family.Banana, []int{50}, 49, 50, []int{50}},
		{family.Wheel, []int{1}, 1, 1, nil}, {family.Wheel, []int{2}, 2, 5, []int{5}}, {family.Wheel, []int{3}, 3, 16, []int{4, 4}}, {family.Wheel, []int{4}, 4, 45, []int{3, 15}}, {family.Wheel, []int{5}, 5, 121, []int{11, 11}}, {family.Wheel, []int{6}, 6, 320, []int{8, 40}}, {family.Wheel, []int{10}, 10, 15125, []int{55, 275}}, {family.Wheel, []int{11}, 11, 39601, []int{199, 199}},
		{family.Bipartite, []int{1, 1}, 0, 1, nil}, {family.Bipartite, []int{1, 11}, 0, 1, nil}, {family.Bipartite, []int{11, 1}, 0, 1, nil}, {family.Bipartite, []int{2, 2}, 1, 4, []int{4}}, {family.Bipartite, []int{2, 3}, 2, 12, []int{2, 6}}, {family.Bipartite, []int{3, 2}, 2, 12, []int{2, 6}}, {family.Bipartite, []int{3, 3}, 4, 81, []int{3, 3, 9}}, {family.Bipartite, []int{3, 4}, 6, 432, []int{3, 3, 4, 12}}, {family.Bipartite, []int{4, 3}, 6, 432, []int{4, 3, 3, 12}}, {family.Bipartite, []int{6, 6}, 25, 60466176, []int{6, 6, 6, 6, 6, 6, 6, 6, 36}}, {family.Bipartite, []int{2, 10}, 9, 5120, []int{2, 2, 2, 2, 2, 2, 2, 2, 20}},
		{family.Theta, []int{1, 1, 1}, 2, 3, []int{3}}, {family.Theta, []int{2, 2, 4}, 2, 20, []int{2, 10}}, {family.Theta, []int{1, 2, 3}, 2, 11, []int{11}}, {family.Theta, []int{3, 3, 6}, 2, 45, []int{3, 15}}, {family.Theta, []int{4, 4, 4}, 2, 48, []int{4, 12}}, {family.Theta, []int{6, 3, 3}, 2, 45, []int{3, 15}}, {family.Theta, []int{2, 4, 3}, 2, 26, []int{26}}, {family.Theta, []int{1, 1, 11}, 2, 23, []int{23}},
	} {
		m := member{x.kind, x.sizes}
		n, e := family.Genus(x.kind, x.sizes)
		agrees(t, "Genus", m, n, e, x.genus, api.OK)
		n, e = family.Trees(x.kind, x.sizes)
		agrees(t, "Trees", m, n, e, x.trees, api.OK)
		agreesOrders(t, m, x.orders, api.OK)
	}
	for _, x := range []struct{ m, n, genus int }{{1, 1, 0}, {1, 12, 0}, {12, 1, 0}, {2, 2, 1}, {2, 6, 5}, {3, 4, 6}, {4, 3, 6}} {
		m := member{family.Grid, []int{x.m, x.n}}
		n, e := family.Genus(family.Grid, m.sizes)
		agrees(t, "Genus", m, n, e, x.genus, api.OK)
		n, e = family.Trees(family.Grid, m.sizes)
		agrees(t, "Trees", m, n, e, 0, api.ErrState)
		agreesOrders(t, m, nil, api.ErrState)
	}
}

// TestNumbersErrors finds the errors of Make at the other functions: they come before ErrState for a Grid.
func TestNumbersErrors(t *testing.T) {
	l := wrong()
	for _, x := range around() {
		if e := x.fault(); e != api.OK {
			l = append(l, faulty{x, e})
		}
	}
	for _, x := range l {
		n, e := family.Genus(x.kind, x.sizes)
		agrees(t, "Genus", x.member, n, e, 0, x.e)
		n, e = family.Trees(x.kind, x.sizes)
		agrees(t, "Trees", x.member, n, e, 0, x.e)
		agreesOrders(t, x.member, nil, x.e)
	}
}
