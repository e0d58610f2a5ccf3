package abelian_test

import (
	"math/big"
	"math/rand"
	"slices"
	"strconv"
	"strings"
	"testing"

	"sandpile/api"
)

var (
	// longest is the greatest integer that is not too long.
	longest = api.Int(strings.Repeat("9", api.MaxLong))
	beyond  = longest + "0"
)

// list returns ints as integers.
func list(l ...int) []api.Int {
	integers := []api.Int{}
	for _, n := range l {
		integers = append(integers, api.Int(strconv.Itoa(n)))
	}
	return integers
}

// repeated returns a list with an integer so many times.
func repeated(n int, a api.Int) []api.Int {
	return slices.Repeat([]api.Int{a}, n)
}

// ten returns a power of ten.
func ten(n int) api.Int { return api.Int("1" + strings.Repeat("0", n)) }

// small lists groups with few elements.
func small() [][]api.Int {
	return [][]api.Int{
		nil, list(2), list(3), list(12), list(60), list(2, 2), list(2, 6), list(3, 9), list(4, 4), list(5, 35), list(2, 2, 2), list(2, 4, 8), list(3, 3, 6), list(6, 6, 6), list(2, 2, 2, 2, 4), repeated(7, "2"),
	}
}

// groups lists groups of all sizes.
func groups() [][]api.Int {
	doubled := []api.Int{}
	for i := range api.MaxSide {
		doubled = append(doubled, integerOf(new(big.Int).Lsh(big.NewInt(3), uint(i))))
	}
	return append(small(),
		list(16384), repeated(api.MaxSide, "2"), repeated(api.MaxSide, "7"), doubled,
		[]api.Int{"1000000007", "1000000007000000000"}, []api.Int{ten(511), ten(512)}, []api.Int{ten(512), ten(512)}, []api.Int{"7", "7" + ten(1022)[1:]}, []api.Int{ten(1), ten(512), ten(1023)},
		[]api.Int{longest}, []api.Int{"3", "9", longest}, []api.Int{"2", longest[1:] + "8"}, []api.Int{api.Int("5" + strings.Repeat("0", 1022) + "1")}, repeated(api.MaxSide, longest), repeated(2, longest[1:]+"7"),
	)
}

// wrongGroup is a list that is no group, with the error of Check.
type wrongGroup struct {
	g []api.Int
	e api.Errno
}

// wrong lists what is no group.
func wrong() []wrongGroup {
	return []wrongGroup{
		{repeated(api.MaxSide+1, "2"), api.ErrMany}, {repeated(api.MaxSide+1, "x"), api.ErrMany}, {repeated(1000, "0"), api.ErrMany},
		{[]api.Int{""}, api.ErrForm}, {[]api.Int{"-"}, api.ErrForm}, {[]api.Int{"02"}, api.ErrForm}, {[]api.Int{"+2"}, api.ErrForm}, {[]api.Int{"2", "2 "}, api.ErrForm}, {[]api.Int{"٣"}, api.ErrForm}, {make([]api.Int, api.MaxSide), api.ErrForm},
		{[]api.Int{beyond}, api.ErrLarge}, {[]api.Int{"-" + beyond}, api.ErrLarge}, {[]api.Int{"2", beyond}, api.ErrLarge},
		{list(1), api.ErrRange}, {list(0), api.ErrRange}, {list(-1), api.ErrRange}, {list(-2), api.ErrRange}, {[]api.Int{"-" + longest}, api.ErrRange}, {list(1, 2), api.ErrRange}, {list(2, 2, 0), api.ErrRange}, {list(2, -2), api.ErrRange},
		{list(2, 3), api.ErrOrder}, {list(4, 2), api.ErrOrder}, {list(2, 4, 6), api.ErrOrder}, {list(2, 2, 2, 5), api.ErrOrder}, {[]api.Int{longest, "3"}, api.ErrOrder}, {[]api.Int{"7", longest}, api.ErrOrder},
		// The range comes before the order.
		{list(2, 1), api.ErrRange}, {list(3, -2), api.ErrRange}, {list(3, 0), api.ErrRange},
		// The first factor with an error counts.
		{[]api.Int{"2", "3", "x"}, api.ErrOrder}, {[]api.Int{"x", "1"}, api.ErrForm}, {[]api.Int{"1", "x"}, api.ErrRange}, {[]api.Int{beyond, "x"}, api.ErrLarge}, {[]api.Int{"x", beyond}, api.ErrForm}, {[]api.Int{"2", "3", "1"}, api.ErrOrder}, {append(repeated(15, "2"), "1"), api.ErrRange}, {append(repeated(15, "2"), "3"), api.ErrOrder},
	}
}

// wrongElement is a list that is no element of the group 2, 6, with its error.
type wrongElement struct {
	a []api.Int
	e api.Errno
}

// wrongElements lists what is no element of the group 2, 6.
func wrongElements() []wrongElement {
	return []wrongElement{
		{nil, api.ErrShape}, {list(0), api.ErrShape}, {list(1, 5, 0), api.ErrShape}, {[]api.Int{"x"}, api.ErrShape}, {make([]api.Int, 3), api.ErrShape}, {repeated(api.MaxSide+1, "0"), api.ErrShape},
		{[]api.Int{"", "0"}, api.ErrForm}, {[]api.Int{"0", "-0"}, api.ErrForm}, {[]api.Int{"0", "05"}, api.ErrForm}, {[]api.Int{"1", "5/1"}, api.ErrForm},
		{[]api.Int{beyond, "0"}, api.ErrLarge}, {[]api.Int{"0", "-" + beyond}, api.ErrLarge},
		{list(2, 0), api.ErrRange}, {list(0, 6), api.ErrRange}, {list(-1, 0), api.ErrRange}, {list(0, -1), api.ErrRange}, {list(0, 7), api.ErrRange}, {[]api.Int{"0", longest}, api.ErrRange}, {[]api.Int{"-" + longest, "0"}, api.ErrRange},
		{[]api.Int{"2", "x"}, api.ErrRange}, {[]api.Int{"x", "6"}, api.ErrForm}, {[]api.Int{beyond, "x"}, api.ErrLarge}, {[]api.Int{"x", beyond}, api.ErrForm}, {[]api.Int{"0", "6"}, api.ErrRange}, {[]api.Int{"-1", beyond}, api.ErrRange},
	}
}

// elementsOf returns some elements of a group: those at the limits of the residues, and any others.
func elementsOf(r *rand.Rand, g []api.Int) [][]api.Int {
	choices := []func(factor *big.Int) *big.Int{
		func(factor *big.Int) *big.Int { return new(big.Int) },
		func(factor *big.Int) *big.Int { return big.NewInt(1) },
		func(factor *big.Int) *big.Int { return new(big.Int).Sub(factor, big.NewInt(1)) },
		func(factor *big.Int) *big.Int { return new(big.Int).Rsh(factor, 1) },
		func(factor *big.Int) *big.Int { return new(big.Int).Rand(r, factor) },
		func(factor *big.Int) *big.Int {
			// A divisor of the factor, if it is a small one.
			divisor := new(big.Int).GCD(nil, nil, factor, big.NewInt(r.Int63n(1<<20)+1))
			return divisor.Mod(divisor, factor)
		},
	}
	l := [][]api.Int{}
	for i := range len(choices) + 4 {
		a := []api.Int{}
		for _, factor := range g {
			choice := choices[min(i, len(choices)-1)]
			if i >= len(choices) {
				choice = choices[r.Intn(len(choices))]
			}
			a = append(a, integerOf(choice(numberOf(factor))))
		}
		l = append(l, a)
	}
	return l
}

// numberOf returns an integer as a number of package big.
func numberOf(a api.Int) *big.Int {
	n, ok := new(big.Int).SetString(string(a), 10)
	if !ok {
		panic("no integer: " + string(a))
	}
	return n
}

// integerOf returns a number of package big as an integer.
func integerOf(n *big.Int) api.Int { return api.Int(n.String()) }

// same reports a list that is not the one wanted.
func same(t *testing.T, what string, got []api.Int, e api.Errno, want []api.Int) {
	t.Helper()
	if !slices.Equal(got, want) || e != api.OK {
		t.Errorf("%s: %v, %d instead of %v", what, got, e, want)
	}
}

// fails reports a list that is not empty beside an error.
func fails(t *testing.T, what string, got []api.Int, e, want api.Errno) {
	t.Helper()
	if len(got) > 0 || e != want {
		t.Errorf("%s: %v, %d instead of the error %d", what, got, e, want)
	}
}

// sameNumber reports an integer or an error that is not the one wanted.
func sameNumber(t *testing.T, what string, got api.Int, e api.Errno, want api.Int, error api.Errno) {
	t.Helper()
	if got != want || e != error {
		t.Errorf("%s: %q, %d instead of %q, %d", what, got, e, want, error)
	}
}

// limited returns a number as an integer, or ErrLarge if it is too long.
func limited(n *big.Int) (api.Int, api.Errno) {
	if a := integerOf(n); len(a) <= api.MaxLong {
		return a, api.OK
	}
	return "", api.ErrLarge
}
