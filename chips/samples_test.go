package chips_test

import (
	"fmt"
	"math"
	"math/rand"
	"slices"
	"testing"

	"sandpile/api"
	"sandpile/chips"
)

const most = api.MaxChips

// samples returns right divisors on 1 to MaxVertices vertices.
func samples() []api.Divisor {
	l := []api.Divisor{{0}, {1}, {-1}, {7}, {most}, {-most}, {most - 1}, {1 - most}, {0, 0}, {0, 1}, {1, 0}, {0, -1}, {-1, 0}, {1, -1}, {most, -most}, {most, most}, {-most, -most}, {1, -2, 3}, {1, 5}, {2, 0}, {0, 0, 0}, {0, 0, 1}, {0, -3, 0}, {2, 2, 2}, {4, 0, 0, -4}}
	r := rand.New(rand.NewSource(70))
	for n := 1; n <= api.MaxVertices; n++ {
		l = append(l, make(api.Divisor, n), slices.Repeat(api.Divisor{most}, n), slices.Repeat(api.Divisor{-most}, n), slices.Repeat(api.Divisor{1}, n))
		for range 10 {
			l = append(l, some(r, n, 1), some(r, n, 3), some(r, n, most/2), some(r, n, most))
		}
	}
	return l
}

// some returns a random divisor with numbers up to top.
func some(r *rand.Rand, n, top int) api.Divisor {
	d := make(api.Divisor, n)
	for v := range d {
		d[v] = r.Intn(2*top+1) - top
	}
	return d
}

// pairs returns pairs of right divisors on the same vertices.
func pairs() [][2]api.Divisor {
	var l [][2]api.Divisor
	all := samples()
	for i, a := range all {
		for k, b := range all {
			// All pairs of the first ones, and some of the others.
			if len(a) == len(b) && (i < 25 || (i+k)%5 == 0 || i == k) {
				l = append(l, [2]api.Divisor{a, b})
			}
		}
	}
	return l
}

// faulty returns lists that are no divisors on as many vertices as they have ints.
func faulty() []api.Divisor {
	l := []api.Divisor{nil, {}, make(api.Divisor, 13), make(api.Divisor, 5000), slices.Repeat(api.Divisor{most + 1}, 13), {most + 1}, {-most - 1}, {math.MaxInt}, {math.MinInt}, {0, most + 1}, {0, -most - 1, 0}, {most + 1, -most - 1}, {math.MaxInt, math.MaxInt}, {math.MinInt, math.MinInt}, {-1, math.MinInt}}
	for v := range api.MaxVertices {
		d := make(api.Divisor, api.MaxVertices)
		d[v] = most + 1
		l = append(l, d)
	}
	return l
}

// results are what all functions return.
type results struct {
	divisors map[string][]api.Divisor
	ints     map[string][]int
	bools    map[string]bool
	e        map[string]api.Errno
}

// isZero tells whether the results of a function are zero values.
func (r results) isZero(name string) bool {
	if name == "Support" && len(r.ints[name]) > 0 {
		return false
	}
	return !slices.ContainsFunc(r.divisors[name], func(d api.Divisor) bool { return len(d) > 0 }) && !slices.ContainsFunc(r.ints[name], func(n int) bool { return n != 0 }) && !r.bools[name]
}

// calls calls all functions: those with divisors with the first one, or both, and those with numbers with n, v and k.
func calls(a, b api.Divisor, n, v, k int) results {
	r := results{map[string][]api.Divisor{}, map[string][]int{}, map[string]bool{}, map[string]api.Errno{}}
	r.e["Check"] = chips.Check(a, n)
	keep := func(name string) func(d api.Divisor, e api.Errno) {
		return func(d api.Divisor, e api.Errno) { r.divisors[name], r.e[name] = []api.Divisor{d}, e }
	}
	keep("Zero")(chips.Zero(n))
	keep("Some")(chips.Some(n, v, k))
	keep("Add")(chips.Add(a, b))
	keep("Sub")(chips.Sub(a, b))
	keep("Neg")(chips.Neg(a))
	keep("Scale")(chips.Scale(a, k))
	degree, e := chips.Degree(a)
	r.ints["Degree"], r.e["Degree"] = []int{degree}, e
	r.bools["Effective"], r.e["Effective"] = chips.Effective(a)
	r.ints["Support"], r.e["Support"] = chips.Support(a)
	positive, negative, e := chips.Parts(a)
	r.divisors["Parts"], r.e["Parts"] = []api.Divisor{positive, negative}, e
	order, e := chips.Compare(a, b)
	r.ints["Compare"], r.e["Compare"] = []int{order}, e
	r.bools["Above"], r.e["Above"] = chips.Above(a, b)
	keep("Meet")(chips.Meet(a, b))
	keep("Join")(chips.Join(a, b))
	r.divisors["All"], r.e["All"] = chips.All(n, k)
	next, more, e := chips.Next(a)
	r.divisors["Next"], r.bools["Next"], r.e["Next"] = []api.Divisor{next}, more, e
	return r
}

// withOne and withTwo are the functions that get one divisor and two.
func withOne() []string {
	return []string{"Neg", "Scale", "Degree", "Effective", "Support", "Parts", "Next"}
}

func withTwo() []string { return []string{"Add", "Sub", "Compare", "Above", "Meet", "Join"} }

// agrees checks a divisor and an error.
func agrees(t *testing.T, name string, what any, d api.Divisor, e api.Errno, want api.Divisor, error api.Errno) {
	t.Helper()
	if !slices.Equal(d, want) || e != error {
		t.Errorf("%s of %s: %v beside the error %d, want %v beside %d", name, short(what), d, e, want, error)
	}
}

// agreesValue checks a number or a bool and an error.
func agreesValue[T comparable](t *testing.T, name string, what any, x T, e api.Errno, want T, error api.Errno) {
	t.Helper()
	if x != want || e != error {
		t.Errorf("%s of %s: %v beside the error %d, want %v beside %d", name, short(what), x, e, want, error)
	}
}

// must returns what a function returns that has no error.
func must[T any](t *testing.T) func(x T, e api.Errno) T {
	return func(x T, e api.Errno) T {
		t.Helper()
		if e != api.OK {
			t.Fatalf("%v beside the error %d", x, e)
		}
		return x
	}
}

// fits returns a list with OK, or ErrLarge if one of its numbers is out of range.
func fits(d api.Divisor) (api.Divisor, api.Errno) {
	for _, k := range d {
		if k > most || k < -most {
			return nil, api.ErrLarge
		}
	}
	return d, api.OK
}

// short returns the beginning of what is printed for a value.
func short(what any) string {
	text := fmt.Sprint(what)
	return text[:min(len(text), 300)]
}
