package notation_test

import (
	"regexp"
	"slices"
	"sort"
	"strconv"
	"strings"

	"sandpile/api"
	"sandpile/lexer"
)

// oracle says what is wrong with a text by looking at the whole of it: a pattern tells which tokens can stand there, and then all faults are collected, of which the first one counts.
type oracle struct {
	word    string
	pattern *regexp.Regexp // of the letters of the tokens
	ends    []string       // letters that may complete what is not complete

	tokens  []api.Token
	letters string
	known   int // the number of tokens that can stand there
	n       int
	faults  []fault
}

// fault is found behind a token; edges are looked at behind all of their tokens.
type fault struct {
	behind, at int
	e          api.Errno
}

var (
	graphPattern   = regexp.MustCompile(`^gn:(n-n(\*n)?)*\$$`)
	digraphPattern = regexp.MustCompile(`^gn:(n>n(\*n)?)*\$$`)
	ribbonPattern  = regexp.MustCompile(`^gn:(n-n(\*n)?)*;[n/]*\$$`)
	intsPattern    = regexp.MustCompile(`^[gw](-?n|z)*\$$`)
)

// expected returns the offset and the error of a text. The word is empty for a list.
func expected(word, text string) (int, api.Errno) {
	tokens, at, e := lexer.Scan(text)
	if e != api.OK {
		return at, e
	}
	o := oracle{word: word, tokens: tokens}
	switch word {
	case "graph":
		o.pattern, o.ends = graphPattern, []string{"", "$", "n$", "-n$", ":$", "n:$"}
	case "digraph":
		o.pattern, o.ends = digraphPattern, []string{"", "$", "n$", ">n$", ":$", "n:$"}
	case "ribbon":
		o.pattern, o.ends = ribbonPattern, []string{"", "$", ";$", "n;$", "-n;$", ":;$", "n:;$"}
	default:
		o.pattern, o.ends = intsPattern, []string{"", "$", "n$"}
	}
	o.read()
	if word == "" {
		o.ints()
	} else {
		o.edges()
	}
	first := fault{behind: 1 << 40}
	for _, f := range o.faults {
		if f.behind < first.behind {
			first = f
		}
	}
	return first.at, first.e
}

// letter returns the letter of a token in a pattern.
func (o *oracle) letter(t api.Token) string {
	switch {
	case t.Kind == api.TokenWord && t.Text == o.word:
		return "g"
	case t.Kind == api.TokenWord:
		return "w"
	case t.Kind == api.TokenNumber && t.Text == "0" && o.word == "":
		return "z"
	case t.Kind == api.TokenNumber:
		return "n"
	case t.Kind == api.TokenEnd:
		return "$"
	}
	return t.Text
}

// read finds the first token that cannot stand there: from there on, nothing makes the text complete.
func (o *oracle) read() {
	for _, t := range o.tokens {
		o.letters += o.letter(t)
	}
	o.known = sort.Search(len(o.letters), func(i int) bool {
		return !slices.ContainsFunc(o.ends, func(end string) bool { return o.pattern.MatchString(o.letters[:i+1] + end) })
	})
	if o.known == len(o.letters) {
		return
	}
	o.add(o.known, o.known, api.ErrSyntax)
	o.letters = o.letters[:o.known]
}

// add adds a fault at a token, found behind another one.
func (o *oracle) add(behind, at int, e api.Errno) {
	o.faults = append(o.faults, fault{2 * behind, o.tokens[at].At, e})
}

// number returns the number of a token, with a fault if it is out of its range.
func (o *oracle) number(i, least, greatest int) int {
	n, err := strconv.Atoi(o.tokens[i].Text)
	if err != nil || n < least || n > greatest {
		o.add(i, i, api.ErrRange)
	}
	return n
}

func (o *oracle) ints() {
	count := 0
	for i := 1; i < o.known; i++ {
		at := i
		switch o.letters[i] {
		case '$':
			return
		case '-':
			if i++; i == o.known {
				return
			}
		}
		if n, err := strconv.Atoi(o.tokens[i].Text); err != nil || n > 1<<20 {
			o.add(at, at, api.ErrRange)
		} else if count++; count > 256 {
			o.add(at, at, api.ErrMany)
		}
	}
}

func (o *oracle) edges() {
	if o.known > 1 {
		o.n = o.number(1, 1, 12)
	}
	sums := map[[2]int]int{}
	last := [2]int{-1, -1}
	i, size := 3, 0
	for i < o.known && o.letters[i] == 'n' {
		at, mult := i, 1
		a, b := o.number(i, 0, o.n-1), -1
		if i+2 < o.known {
			b = o.number(i+2, 0, o.n-1)
		}
		i += 3
		if strings.HasPrefix(o.letters[min(i, len(o.letters)):], "*") {
			if i+1 < o.known {
				mult = o.number(i+1, 1, 50)
			}
			i += 2
		}
		if i > o.known {
			return
		}
		ends := [2]int{a, b}
		if a > b && o.word == "graph" {
			ends = [2]int{b, a}
		}
		sums[ends] += mult
		size += mult
		if sums[ends] > 50 && o.word != "ribbon" {
			o.faults = append(o.faults, fault{2*(i-1) + 1, o.tokens[at].At, api.ErrMany})
		}
		if (a > b || a < last[0] || a == last[0] && b <= last[1]) && o.word == "ribbon" {
			o.faults = append(o.faults, fault{2*(i-1) + 1, o.tokens[at].At, api.ErrOrder})
		}
		last = ends
	}
	if i < o.known && o.letters[i] == ';' {
		o.lists(i+1, size)
	}
}

func (o *oracle) lists(i, size int) {
	count := 1
	for ; i < o.known; i++ {
		switch o.letters[i] {
		case 'n':
			o.number(i, 0, 2*size-1)
		case '/':
			if count++; count > o.n {
				o.add(i, i, api.ErrShape)
			}
		case '$':
			if count < o.n {
				o.add(i, i, api.ErrShape)
			}
		}
	}
}
