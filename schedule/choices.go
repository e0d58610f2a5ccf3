package schedule

import "sandpile/api"

// choices are offered to picks: vertices that may fire, or chips that may arrive.
type choices interface {
	count() int   // how many there are
	choose(i int) // lets the one with this index fire or arrive
}

// count returns how many choices are offered together.
func count(offered []choices) int {
	n := 0
	for _, x := range offered {
		n += x.count()
	}
	return n
}

// pick chooses among all choices that are offered, and tells whether there are any.
func pick(value int, offered ...choices) bool {
	n := count(offered)
	if n == 0 {
		return false
	}
	i := value % n
	for _, x := range offered {
		if i < x.count() {
			x.choose(i)
			break
		}
		i -= x.count()
	}
	return true
}

// exhaust picks, from the first pick on again and again, until there are no choices, and tells whether MaxFirings picks are enough for that.
func exhaust(picks []int, offered ...choices) bool {
	for i := range api.MaxFirings {
		if !pick(picks[i%len(picks)], offered...) {
			return true
		}
	}
	return count(offered) == 0
}

// vertices offers the unstable vertices of a run, in ascending order.
type vertices struct {
	run  *run
	fire func(v int)
}

// count returns the number of unstable vertices.
func (x vertices) count() int {
	n := 0
	for range x.run.unstable() {
		n++
	}
	return n
}

// choose lets the unstable vertex with an index fire.
func (x vertices) choose(i int) {
	for v := range x.run.unstable() {
		if i == 0 {
			x.fire(v)
			return
		}
		i--
	}
}
