package schedule

import (
	"math/bits"

	"sandpile/api"
)

// parcel has the chips that a vertex has sent by one firing: how many of them still go to each vertex.
type parcel [api.MaxVertices]uint8

// size returns the number of chips in a parcel.
func (p parcel) size() int {
	n := 0
	for _, k := range p {
		n += int(k)
	}
	return n
}

// line has chips in the order in which they were sent. Chips of one firing that go to the same vertex are next to each other, so it does not matter which of them is taken.
type line struct {
	parcels []parcel
	// There may be as many parcels as firings, so their chips are counted in a tree of sums: sums[n-1] is the number of chips in the last n & -n of the first n parcels.
	sums   []int
	number int // how many chips there are
}

// add lets the chips of a parcel be the last ones.
func (l *line) add(p parcel) {
	sum, n := p.size(), len(l.parcels)+1
	l.number += sum
	for step := 1; step < n&-n; step *= 2 {
		sum += l.sums[n-step-1]
	}
	l.parcels, l.sums = append(l.parcels, p), append(l.sums, sum)
}

// take takes the chip with an index out of the line, and returns the vertex to which it goes.
func (l *line) take(i int) int {
	before, i := l.find(i)
	l.number--
	for n := before + 1; n <= len(l.sums); n += n & -n {
		l.sums[n-1]--
	}
	return l.parcels[before].take(i)
}

// find returns the number of parcels before the chip with an index, and its index in its own parcel.
func (l *line) find(i int) (int, int) {
	before := 0
	for step := 1 << bits.Len(uint(len(l.sums))); step > 0; step /= 2 {
		if n := before + step; n <= len(l.sums) && l.sums[n-1] <= i {
			before, i = n, i-l.sums[n-1]
		}
	}
	return before, i
}

// take takes the chip with an index out of a parcel, and returns the vertex to which it goes.
func (p *parcel) take(i int) int {
	to := 0
	for i >= int(p[to]) {
		i -= int(p[to])
		to++
	}
	p[to]--
	return to
}
