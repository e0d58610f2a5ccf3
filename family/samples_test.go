package family_test

import (
	"math/big"
	"slices"
	"testing"

	"sandpile/api"
	"sandpile/family"
)

// kinds are all kinds, in the order of the chapter.
func kinds() []int {
	return []int{family.Path, family.Cycle, family.Star, family.Complete, family.Banana, family.Wheel, family.Bipartite, family.Grid, family.Theta}
}

// sizes returns how many sizes a kind has.
func sizes(kind int) int {
	switch kind {
	case family.Bipartite, family.Grid:
		return 2
	case family.Theta:
		return 3
	}
	return 1
}

// member is a graph of a kind.
type member struct {
	kind  int
	sizes []int
}

// around returns members with all sizes that are permitted, and with many others near them.
func around() []member {
	var l []member
	for _, kind := range kinds() {
		switch sizes(kind) {
		case 1:
			for n := -1; n < 55; n++ {
				l = append(l, member{kind, []int{n}})
			}
		case 2:
			for m := -1; m < 55; m++ {
				for n := -1; n < 55; n++ {
					l = append(l, member{kind, []int{m, n}})
				}
			}
		case 3:
			for k := -1; k < 15; k++ {
				for m := -1; m < 15; m++ {
					for n := -1; n < 15; n++ {
						l = append(l, member{kind, []int{k, m, n}})
					}
				}
			}
		}
	}
	return l
}

// right returns the members that are graphs.
func right() []member {
	return slices.DeleteFunc(around(), func(x member) bool { return x.fault() != api.OK })
}

// vertices returns how many vertices there would be.
func (x member) vertices() *big.Int {
	number := func(i int) *big.Int { return big.NewInt(int64(x.sizes[i])) }
	sum := func(l ...*big.Int) *big.Int {
		all := big.NewInt(0)
		for _, n := range l {
			all.Add(all, n)
		}
		return all
	}
	switch x.kind {
	case family.Star, family.Wheel:
		return sum(number(0), big.NewInt(1))
	case family.Banana:
		return big.NewInt(2)
	case family.Bipartite:
		return sum(number(0), number(1))
	case family.Grid:
		return new(big.Int).Mul(number(0), number(1))
	case family.Theta:
		return sum(number(0), number(1), number(2), big.NewInt(-1))
	}
	return number(0)
}

// fault returns the error of Make.
func (x member) fault() api.Errno {
	switch {
	case !slices.Contains(kinds(), x.kind):
		return api.ErrArg
	case len(x.sizes) != sizes(x.kind):
		return api.ErrShape
	case slices.ContainsFunc(x.sizes, func(n int) bool { return n < 1 }):
		return api.ErrRange
	case x.vertices().Cmp(big.NewInt(12)) > 0, x.kind == family.Banana && x.sizes[0] > 50:
		return api.ErrMany
	}
	return api.OK
}

// mult returns how often the vertices a <= b are joined, as the table of the chapter says.
func (x member) mult(a, b int) int {
	n := x.sizes[len(x.sizes)-1]
	switch x.kind {
	case family.Path:
		return count(b == a+1)
	case family.Cycle:
		return count(b == a+1) + count(a == 0 && b == n-1)
	case family.Star:
		return count(a == 0 && b > 0)
	case family.Complete:
		return count(a < b)
	case family.Banana:
		return n * count(a < b)
	case family.Wheel:
		return count(a == 0 && b > 0) + count(a > 0 && b == a+1) + count(a == 1 && b == n)
	case family.Bipartite:
		return count(a < x.sizes[0] && b >= x.sizes[0])
	case family.Grid:
		return count(a+n == b) + count(a+1 == b && b%n > 0)
	}
	joined := 0
	for way, length := range x.sizes {
		for i := range length {
			v, w := x.place(way, i), x.place(way, i+1)
			joined += count(min(v, w) == a && max(v, w) == b)
		}
	}
	return joined
}

// place returns the vertex behind i edges of a way of a Theta.
func (x member) place(way, i int) int {
	switch i {
	case 0:
		return 0
	case x.sizes[way]:
		return 1
	}
	return 1 + i + []int{0, x.sizes[0] - 1, x.sizes[0] + x.sizes[1] - 2}[way]
}

// count returns 1 for true.
func count(b bool) int {
	if b {
		return 1
	}
	return 0
}

// graph returns the graph of the table.
func (x member) graph() api.Graph {
	g := api.Graph{N: int(x.vertices().Int64())}
	for a := range g.N {
		for b := a; b < g.N; b++ {
			if mult := x.mult(a, b); mult > 0 {
				g.Edges = append(g.Edges, edge(a, b, mult))
			}
		}
	}
	return g
}

// trees returns the number of spanning trees of the table.
func (x member) trees() int {
	s := x.sizes
	switch x.kind {
	case family.Cycle, family.Banana:
		return s[0]
	case family.Complete:
		return power(s[0], s[0]-2)
	case family.Wheel:
		return lucas(2*s[0]) - 2
	case family.Bipartite:
		return power(s[0], s[1]-1) * power(s[1], s[0]-1)
	case family.Theta:
		return s[0]*s[1] + s[0]*s[2] + s[1]*s[2]
	}
	return 1
}

// orders returns the orders of the table.
func (x member) orders() []int {
	s := x.sizes
	var l []int
	switch x.kind {
	case family.Cycle, family.Banana:
		l = []int{s[0]}
	case family.Complete:
		for range s[0] - 2 {
			l = append(l, s[0])
		}
	case family.Wheel:
		l = []int{fibonacci(s[0]), 5 * fibonacci(s[0])}
		if s[0]%2 == 1 {
			l = []int{lucas(s[0]), lucas(s[0])}
		}
	case family.Bipartite:
		if min(s[0], s[1]) < 2 {
			return nil
		}
		for range s[1] - 2 {
			l = append(l, s[0])
		}
		for range s[0] - 2 {
			l = append(l, s[1])
		}
		l = append(l, s[0]*s[1])
	case family.Theta:
		d := 1
		for i := 2; i <= s[0]; i++ {
			if s[0]%i == 0 && s[1]%i == 0 && s[2]%i == 0 {
				d = i
			}
		}
		l = []int{d, (s[0]*s[1] + s[0]*s[2] + s[1]*s[2]) / d}
	}
	return slices.DeleteFunc(l, func(n int) bool { return n == 1 })
}

func power(a, n int) int {
	if n < 1 {
		return 1
	}
	return a * power(a, n-1)
}

func lucas(n int) int {
	if n < 2 {
		return 2 - n
	}
	return lucas(n-1) + lucas(n-2)
}

func fibonacci(n int) int {
	if n < 2 {
		return n
	}
	return fibonacci(n-1) + fibonacci(n-2)
}

// edges is a short name for graphs.
func edges(n int, l ...api.Edge) api.Graph { return api.Graph{N: n, Edges: l} }

// edge is a short name for edges.
func edge(a, b, mult int) api.Edge { return api.Edge{A: a, B: b, Mult: mult} }

// simple returns the graph with n vertices and edges that occur once, two numbers for each one.
func simple(n int, ends ...int) api.Graph {
	g := edges(n)
	for i := 0; i < len(ends); i += 2 {
		g.Edges = append(g.Edges, edge(ends[i], ends[i+1], 1))
	}
	return g
}

// same tells whether two graphs are equal.
func same(g, h api.Graph) bool { return g.N == h.N && slices.Equal(g.Edges, h.Edges) }

// agrees checks a result and an error.
func agrees[T comparable](t *testing.T, name string, x member, got T, e api.Errno, want T, error api.Errno) {
	t.Helper()
	if got != want || e != error {
		t.Errorf("%s of %v: %v beside the error %d, want %v beside %d", name, x, got, e, want, error)
	}
}

// agreesGraph checks the graph of a member.
func agreesGraph(t *testing.T, x member, want api.Graph, error api.Errno) {
	t.Helper()
	if g, e := family.Make(x.kind, x.sizes); !same(g, want) || e != error {
		t.Errorf("%v: %v beside the error %d, want %v beside %d", x, g, e, want, error)
	}
}

// agreesOrders checks the orders of a member.
func agreesOrders(t *testing.T, x member, want []int, error api.Errno) {
	t.Helper()
	if l, e := family.Cyclic(x.kind, x.sizes); !slices.Equal(l, want) || e != error {
		t.Errorf("%v: the orders %v beside the error %d, want %v beside %d", x, l, e, want, error)
	}
}

// must returns what a function returns that has no error.
func must[T any](t *testing.T) func(x T, e api.Errno) T {
	return func(x T, e api.Errno) T {
		t.Helper()
		if e != api.OK {
			t.Fatalf("%v beside the error %d", x, e)
		}
		return x
	}
}
