package family

// drawing is a graph that arises from walks: it has the vertices up to the greatest one on them.
type drawing struct {
	vertices int
	ends     [][2]int
}

// walk adds the edges between vertices that follow each other.
func (d *drawing) walk(vertices ...int) {
	for i, v := range vertices {
		d.vertices = max(d.vertices, v+1)
		if i > 0 {
			d.ends = append(d.ends, [2]int{vertices[i-1], v})
		}
	}
}

// row returns some vertices at equal distances.
func row(first, count, distance int) []int {
	l := make([]int, count)
	for i := range l {
		l[i] = first + i*distance
	}
	return l
}

func path(d *drawing, s []int) { d.walk(row(0, s[0], 1)...) }

func cycle(d *drawing, s []int) { d.walk(append(row(0, s[0], 1), 0)...) }

func star(d *drawing, s []int) {
	for _, v := range row(1, s[0], 1) {
		d.walk(0, v)
	}
}

func complete(d *drawing, s []int) {
	for v := range s[0] {
		d.walk(v) // There may be no other vertex.
		for w := range v {
			d.walk(w, v)
		}
	}
}

func banana(d *drawing, s []int) {
	for range s[0] {
		d.walk(0, 1)
	}
}

func wheel(d *drawing, s []int) {
	star(d, s)
	d.walk(append(row(1, s[0], 1), 1)...)
}

func bipartite(d *drawing, s []int) {
	for v := range s[0] {
		for _, w := range row(s[0], s[1], 1) {
			d.walk(v, w)
		}
	}
}

func grid(d *drawing, s []int) {
	m, n := s[0], s[1]
	for i := range m {
		d.walk(row(i*n, n, 1)...)
	}
	for j := range n {
		d.walk(row(j, m, n)...)
	}
}

func theta(d *drawing, s []int) {
	next := 2
	for _, length := range s {
		inner := row(next, length-1, 1)
		next += len(inner)
		way := append([]int{0}, inner...)
		d.walk(append(way, 1)...)
	}
}
