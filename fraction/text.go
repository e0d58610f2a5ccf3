package fraction

import (
	"strings"

	"sandpile/api"
	"sandpile/integer"
)

// Text returns the text of a fraction: its Num, if Den is 1, and otherwise Num, "/" and Den.
func Text(a api.Frac) (string, api.Errno) {
	if e := Check(a); e != api.OK {
		return "", e
	}
	if a.Den == "1" {
		return string(a.Num), api.OK
	}
	return string(a.Num) + "/" + string(a.Den), api.OK
}

// Parse returns the fraction with a text.
func Parse(s string) (api.Frac, api.Errno) {
	a, e := cut(s).fraction()
	if e != api.OK {
		return api.Frac{}, e
	}
	if e := Check(a); e != api.OK {
		return api.Frac{}, e
	}
	return a, api.OK
}

// parts are the two parts of a text: the one before the first "/", and the one behind it, if there is a "/".
type parts struct {
	before, behind string
	two            bool
}

// cut returns the parts of a text.
func cut(s string) parts {
	before, behind, two := strings.Cut(s, "/")
	return parts{before, behind, two}
}

// fraction returns the fraction whose Num and Den are the parts, or ErrForm if they have a wrong form; it need not be in lowest terms.
func (p parts) fraction() (api.Frac, api.Errno) {
	read := parts.whole
	switch {
	case !canonical(p.before):
		return api.Frac{}, api.ErrForm
	case p.two && (p.behind == "1" || !canonical(p.behind)):
		return api.Frac{}, api.ErrForm
	case p.two:
		read = parts.broken
	}
	return read(p), api.OK
}

// whole returns the fraction of a text without "/".
func (p parts) whole() api.Frac {
	return api.Frac{Num: api.Int(p.before), Den: "1"}
}

// broken returns the fraction of a text with "/".
func (p parts) broken() api.Frac {
	return api.Frac{Num: api.Int(p.before), Den: api.Int(p.behind)}
}

// canonical tells whether a part is a canonical integer, which may be too long.
func canonical(part string) bool {
	return integer.Check(api.Int(part)) != api.ErrForm
}
