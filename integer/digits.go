package integer

import (
	"iter"
	"strconv"
	"strings"

	"sandpile/api"
)

// A word holds nine decimal digits, so that texts are read and written in linear time, and the product of two words fits into 64 bits.
const (
	groupDigits = 9
	base        = 1_000_000_000
)

// read returns the number that a canonical integer stands for.
func read(a api.Int) (number, api.Errno) {
	if e := Check(a); e != api.OK {
		return number{}, e
	}
	digits, negative := strings.CutPrefix(string(a), "-")
	size := make(words, 0, len(digits)/groupDigits+1)
	for group := range groups(digits) {
		size = append(size, group)
	}
	return number{negative, size.trim()}, api.OK
}

// readTwo reads two canonical integers, from left to right.
func readTwo(a, b api.Int) (number, number, api.Errno) {
	x, e := read(a)
	if e != api.OK {
		return number{}, number{}, e
	}
	y, e := read(b)
	if e != api.OK {
		return number{}, number{}, e
	}
	return x, y, api.OK
}

// groups yields the values of the groups of digits, the last group first.
func groups(digits string) iter.Seq[uint64] {
	return func(yield func(uint64) bool) {
		for end := len(digits); end > 0; end -= groupDigits {
			if !yield(value(digits[max(end-groupDigits, 0):end])) {
				return
			}
		}
	}
}

// value returns the value of at most nine digits.
func value(digits string) uint64 {
	v := uint64(0)
	for i := range len(digits) {
		v = 10*v + uint64(digits[i]-'0')
	}
	return v
}

// digits returns how many decimal digits a size has (none for 0).
func (w words) digits() int {
	if len(w) == 0 {
		return 0
	}
	count := (len(w) - 1) * groupDigits
	for top := w[len(w)-1]; top > 0; top /= 10 {
		count++
	}
	return count
}

// text returns the canonical integer of a number.
func (n number) text() (api.Int, api.Errno) {
	if len(n.size) == 0 {
		return "0", api.OK
	}
	if n.size.digits() > api.MaxLong {
		return "", api.ErrLarge
	}
	out := make([]byte, 0, len(n.size)*groupDigits+1)
	if n.negative {
		out = append(out, '-')
	}
	last := len(n.size) - 1
	out = strconv.AppendUint(out, n.size[last], 10)
	for i := last - 1; i >= 0; i-- {
		out = appendGroup(out, n.size[i])
	}
	return api.Int(out), api.OK
}

// appendGroup writes all nine digits of a word, with leading zeros.
func appendGroup(out []byte, word uint64) []byte {
	for unit := uint64(base / 10); unit > 0; unit /= 10 {
		out = append(out, byte('0'+word/unit%10))
	}
	return out
}
