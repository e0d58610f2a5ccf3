package integer_test

import (
	"math/big"
	"math/rand"
	"strings"
	"testing"

	"sandpile/api"
	"sandpile/integer"
)

// longest is the greatest integer that is not too long.
var longest = api.Int(strings.Repeat("9", api.MaxLong))

// wrong lists texts that are no canonical integers, and texts that are too long.
func wrong() []api.Int {
	list := []api.Int{
		"", "-", "--1", "+1", "007", "00", "-0", "-01", " 1", "1 ", "1-", "-1-", "1.0", "1e3", "0x1", "1_000", "a", "12a4", "1\x00", "\xff", "٣", "１", "−1",
	}
	return append(list, longest+"0", "-"+longest+"0", "1"+api.Int(strings.Repeat("0", 1<<20)), "0"+longest, longest+"x")
}

// samples lists canonical integers of many lengths, among them those whose groups of nine digits are the least or the greatest.
func samples() []api.Int {
	list := []api.Int{
		"0", "1", "2", "3", "7", "10", "36", "84", "256", "999999999", "1000000000", "1000000001", "4294967295", "4294967296", "999999999999999999", "1000000000000000000",
		"9223372036854775807", "9223372036854775808", "18446744073709551615", "18446744073709551616",
	}
	random := rand.New(rand.NewSource(1))
	for _, count := range []int{1, 2, 3, 4, 5, 8, 20} {
		for range 6 {
			list = append(list, grouped(random, count))
		}
	}
	for _, a := range list {
		if a != "0" {
			list = append(list, "-"+a)
		}
	}
	return list
}

// grouped returns an integer of so many groups of nine digits.
func grouped(random *rand.Rand, count int) api.Int {
	digits := []string{"", "1", "9", "4294967296"}[random.Intn(4)]
	for range count {
		group := []string{"000000000", "999999999", "500000000", "499999999", "000000001", ""}[random.Intn(6)]
		if group == "" {
			group = big.NewInt(1e9 + random.Int63n(1e9)).String()[1:]
		}
		digits += group
	}
	if digits = strings.TrimLeft(digits, "0"); digits == "" {
		return "0"
	}
	return api.Int(digits)
}

// same reports results that are not those of the reference: an integer that is too long stands for an error.
func same(t *testing.T, what string, got api.Int, e api.Errno, want *big.Int) {
	t.Helper()
	text := want.String()
	if len(strings.TrimPrefix(text, "-")) > api.MaxLong {
		if got != "" || e != api.ErrLarge {
			t.Errorf("%s: %q, %d instead of ErrLarge", what, got, e)
		}
		return
	}
	if string(got) != text || e != api.OK {
		t.Errorf("%s: %q, %d instead of %q", what, got, e, text)
	}
}

// reference returns the number of package big with the same text.
func reference(a api.Int) *big.Int {
	n, _ := new(big.Int).SetString(string(a), 10)
	return n
}

// must returns a result that has no error.
func must(t *testing.T) func(api.Int, api.Errno) api.Int {
	return func(a api.Int, e api.Errno) api.Int {
		t.Helper()
		if e != api.OK || integer.Check(a) != api.OK {
			t.Fatalf("%q with the error %d", a, e)
		}
		return a
	}
}
