package polynomial

import (
	"strconv"
	"strings"

	"sandpile/api"
)

// Text returns the text of a polynomial.
func Text(p api.Poly) (string, api.Errno) {
	if e := Check(p); e != api.OK {
		return "", e
	}
	text := textOf(p)
	if len(text) > api.MaxText {
		return "", api.ErrLong
	}
	return text, api.OK
}

// textOf returns a text of any length.
func textOf(p api.Poly) string {
	if len(p) == 0 {
		return "0"
	}
	var text strings.Builder
	for i, t := range p {
		size, negative := strings.CutPrefix(string(t.Coef), "-")
		text.WriteString(signOf(i == 0, negative))
		text.WriteString(termOf(size, t.X, t.Y))
	}
	return text.String()
}

// signOf returns what comes before a term.
func signOf(first, negative bool) string {
	switch {
	case first && negative:
		return "-"
	case first:
		return ""
	case negative:
		return " - "
	}
	return " + "
}

// termOf returns the text of a term.
func termOf(size string, x, y int) string {
	parts := []string{}
	if size != "1" || x == 0 && y == 0 {
		parts = append(parts, size)
	}
	if x > 0 {
		parts = append(parts, powerOf("X", x))
	}
	if y > 0 {
		parts = append(parts, powerOf("Y", y))
	}
	return strings.Join(parts, " ")
}

// powerOf returns the text of a power of X or Y.
func powerOf(name string, n int) string {
	if n == 1 {
		return name
	}
	return name + "^" + strconv.Itoa(n)
}

// Parse returns the polynomial with a text.
func Parse(s string) (p api.Poly, e api.Errno) {
	if len(s) > api.MaxText {
		return nil, api.ErrLong
	}
	defer func() {
		switch failure := recover().(type) {
		case nil:
		case api.Errno:
			e = failure
		default:
			panic(failure)
		}
	}()
	r := reader{s}
	return r.polynomial(), api.OK
}
