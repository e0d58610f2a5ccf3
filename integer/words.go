package integer

// words is the size of a number: groups of nine digits, the lowest group first, and no zero as the highest one. Only reduce and restore change their receiver, so all other methods may share memory.
type words []uint64

// trim drops the highest zeros.
func (w words) trim() words {
	for len(w) > 0 && w[len(w)-1] == 0 {
		w = w[:len(w)-1]
	}
	return w
}

// compare returns -1, 0 or 1.
func (w words) compare(v words) int {
	if len(w) != len(v) {
		return sign(len(w) - len(v))
	}
	for i := len(w) - 1; i >= 0; i-- {
		if w[i] < v[i] {
			return -1
		}
		if w[i] > v[i] {
			return 1
		}
	}
	return 0
}

func sign(n int) int {
	return min(max(n, -1), 1)
}

// plus returns the sum.
func (w words) plus(v words) words {
	if len(w) < len(v) {
		w, v = v, w
	}
	out := make(words, 0, len(w)+1)
	carry := uint64(0)
	for i, word := range w {
		carry += word
		if i < len(v) {
			carry += v[i]
		}
		out = append(out, carry%base)
		carry /= base
	}
	return append(out, carry).trim()
}

// minus returns the difference; v is not greater than w.
func (w words) minus(v words) words {
	out := make(words, 0, len(w))
	borrow := uint64(0)
	for i, word := range w {
		word += base - borrow
		if i < len(v) {
			word -= v[i]
		}
		out = append(out, word%base)
		borrow = 1 - word/base
	}
	return out.trim()
}

// times returns the product.
func (w words) times(v words) words {
	out := make(words, len(w)+len(v))
	for i, word := range w {
		carry := uint64(0)
		for j, other := range v {
			carry += out[i+j] + word*other
			out[i+j] = carry % base
			carry /= base
		}
		out[i+len(v)] = carry
	}
	return out.trim()
}

// divide returns the quotient, rounded down, and the remainder; v is not 0.
func (w words) divide(v words) (words, words) {
	switch {
	case w.compare(v) < 0:
		return nil, w
	case len(v) == 1:
		return w.divideWord(v[0])
	}
	return w.divideLong(v)
}

// divideWord divides by one word.
func (w words) divideWord(v uint64) (words, words) {
	quotient := make(words, len(w))
	rest := uint64(0)
	for i := len(w) - 1; i >= 0; i-- {
		rest = rest*base + w[i]
		quotient[i] = rest / v
		rest %= v
	}
	return quotient.trim(), words{rest}.trim()
}

// divideLong divides by at least two words, word by word as on paper (Knuth's algorithm D).
func (w words) divideLong(v words) (words, words) {
	// With a highest word of at least base/2 the guesses are at most 1 too large.
	factor := base / (v[len(v)-1] + 1)
	v = v.times(words{factor})
	rest := make(words, len(w)+1)
	copy(rest, w.times(words{factor}))
	quotient := make(words, len(w)-len(v)+1)
	for i := len(quotient) - 1; i >= 0; i-- {
		part := rest[i : i+len(v)+1]
		word := part.guess(v)
		if part.reduce(v, word) {
			part.restore(v)
			word--
		}
		quotient[i] = word
	}
	rest, _ = rest.trim().divideWord(factor)
	return quotient.trim(), rest
}

// guess returns the word of the quotient of a part (one word longer than v) by v, or 1 more.
func (w words) guess(v words) uint64 {
	n := len(v)
	top := w[n]*base + w[n-1]
	word, rest := top/v[n-1], top%v[n-1]
	for rest < base && (word >= base || word*v[n-2] > rest*base+w[n-2]) {
		word--
		rest += v[n-1]
	}
	return word
}

// reduce subtracts word times v from a part in its place, and tells whether that was too much. Only divideLong calls it, on memory of its own.
func (w words) reduce(v words, word uint64) bool {
	carry, borrow := uint64(0), uint64(0)
	for i := range w {
		if i < len(v) {
			carry += v[i] * word
		}
		rest := w[i] + base - carry%base - borrow
		w[i] = rest % base
		borrow = 1 - rest/base
		carry /= base
	}
	return borrow > 0
}

// restore adds v to a part in its place, after reduce has subtracted too much.
func (w words) restore(v words) {
	carry := uint64(0)
	for i := range w {
		if i < len(v) {
			carry += v[i]
		}
		carry += w[i]
		w[i] = carry % base
		carry /= base
	}
}

// commonDivisor returns the greatest common divisor.
func (w words) commonDivisor(v words) words {
	for len(v) > 0 {
		_, rest := w.divide(v)
		w, v = v, rest
	}
	return w
}
