package polynomial

import (
	"strconv"
	"strings"

	"sandpile/api"
)

// reader has the rest of a text. Its methods panic with an error number where this rest is not right.
type reader struct{ rest string }

// polynomial reads a whole text.
func (r *reader) polynomial() api.Poly {
	s := r.rest
	if s == "0" {
		return nil
	}
	p := api.Poly{r.term(r.skip("-"))}
	for r.rest != "" {
		p = append(p, r.term(r.negative()))
	}
	// The reader leaves much open, such as the order of the terms and a coefficient 1 before X: what it has read has to have just this text.
	if text, e := Text(p); e != api.OK || text != s {
		panic(api.ErrForm)
	}
	return p
}

// negative reads the sign between two terms, and tells whether it is minus.
func (r *reader) negative() bool {
	if r.skip(" - ") {
		return true
	}
	if !r.skip(" + ") {
		panic(api.ErrForm)
	}
	return false
}

// term reads a term, of which each part may be absent.
func (r *reader) term(negative bool) api.Term {
	size := r.digits()
	if size == "" {
		size = "1"
	}
	if negative {
		size = "-" + size
	}
	return api.Term{Coef: api.Int(size), X: r.power("X"), Y: r.power("Y")}
}

// power reads a power of X or Y, perhaps behind a blank, and returns its exponent.
func (r *reader) power(name string) int {
	if !r.skip(" "+name) && !r.skip(name) {
		return 0
	}
	if !r.skip("^") {
		return 1
	}
	n, err := strconv.Atoi(r.digits())
	if err != nil {
		panic(api.ErrForm)
	}
	return n
}

// digits reads as many digits as there are.
func (r *reader) digits() string {
	digits := r.rest[:len(r.rest)-len(strings.TrimLeft(r.rest, "0123456789"))]
	r.rest = r.rest[len(digits):]
	return digits
}

// skip reads a word if the rest begins with it, and tells whether it does.
func (r *reader) skip(word string) bool {
	rest, found := strings.CutPrefix(r.rest, word)
	r.rest = rest
	return found
}
