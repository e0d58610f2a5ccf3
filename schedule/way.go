package schedule

// way offers the chips of a run that are on their way, in the order in which they were sent.
type way struct {
	*run
	line line
	most int // how many chips have been on their way at once
}

// send lets a vertex fire, the chips of which are on their way then.
func (w *way) send(v int) {
	w.script[v]++
	w.chips[v] += w.changes[v][v]
	var p parcel
	for to, k := range w.changes[v] {
		if to != v {
			p[to] = uint8(k)
		}
	}
	w.line.add(p)
	w.most = max(w.most, w.line.number)
}

// count returns the number of chips that are on their way.
func (w *way) count() int { return w.line.number }

// choose lets the chip with an index arrive.
func (w *way) choose(i int) { w.chips[w.line.take(i)]++ }
