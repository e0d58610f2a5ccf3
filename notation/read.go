package notation

import "sandpile/api"

// edgeReader reads what the texts of all sorts of graphs begin with.
type edgeReader struct {
	reader
	kind
	n     int
	edges []api.Arc
}

// begin reads the number of vertices, and the edges.
func (r *edgeReader) begin() {
	r.exactWord(r.word)
	r.n = r.number(1, api.MaxVertices)
	r.sign(":")
	for r.token().Kind == api.TokenNumber {
		r.edge()
	}
}

// edge reads an edge, and looks at it as a whole behind its Mult.
func (r *edgeReader) edge() {
	at := r.token().At
	x := api.Arc{Mult: 1}
	x.From = r.number(0, r.n-1)
	r.sign(r.between)
	x.To = r.number(0, r.n-1)
	if r.isAt("*") {
		r.sign("*")
		x.Mult = r.number(1, api.MaxMult)
	}
	edges, e := r.add(r.edges, x)
	if e != api.OK {
		r.fail(at, e)
	}
	r.edges = edges
}

// graph returns the graph with the edges.
func (r *edgeReader) graph() api.Graph {
	g := api.Graph{N: r.n}
	for _, x := range r.edges {
		g.Edges = append(g.Edges, api.Edge{A: x.From, B: x.To, Mult: x.Mult})
	}
	return g
}

// ribbonReader reads moreover the list of each vertex.
type ribbonReader struct {
	edgeReader
	around [][]int
}

// lists reads the lists.
func (r *ribbonReader) lists() {
	halves := 0
	for _, x := range r.edges {
		halves += 2 * x.Mult
	}
	r.around = make([][]int, 1, api.MaxVertices)
	for !r.isAtEnd() {
		if r.isAt("/") {
			r.list()
			continue
		}
		last := len(r.around) - 1
		r.around[last] = append(r.around[last], r.number(0, halves-1))
	}
	if len(r.around) < r.n {
		r.fail(r.token().At, api.ErrShape)
	}
}

// list begins another list.
func (r *ribbonReader) list() {
	if len(r.around) == r.n {
		r.fail(r.token().At, api.ErrShape)
		return
	}
	r.sign("/")
	r.around = append(r.around, nil)
}

// ReadInts returns the word and the ints of a list; or an offset and an error.
func ReadInts(text string) (string, []int, int, api.Errno) {
	r := scan(text)
	word := r.anyWord()
	var l []int
	for !r.isAtEnd() {
		at := r.token().At
		k := r.signed(-api.MaxChips, api.MaxChips)
		if len(l) == api.MaxList {
			r.fail(at, api.ErrMany)
		}
		l = append(l, k)
	}
	if r.fault != api.OK {
		return "", nil, r.at, r.fault
	}
	return word, l, 0, api.OK
}

// ReadGraph returns the graph with a text; or an offset and an error.
func ReadGraph(text string) (api.Graph, int, api.Errno) {
	r := edgeReader{reader: scan(text), kind: graphs()}
	r.begin()
	r.end()
	if r.fault != api.OK {
		return api.Graph{}, r.at, r.fault
	}
	return r.graph(), 0, api.OK
}

// ReadDigraph returns the digraph with a text; or an offset and an error.
func ReadDigraph(text string) (api.Digraph, int, api.Errno) {
	r := edgeReader{reader: scan(text), kind: digraphs()}
	r.begin()
	r.end()
	if r.fault != api.OK {
		return api.Digraph{}, r.at, r.fault
	}
	return api.Digraph{N: r.n, Arcs: r.edges}, 0, api.OK
}

// ReadRibbon returns the ribbon graph with a text; or an offset and an error.
func ReadRibbon(text string) (api.Ribbon, int, api.Errno) {
	r := ribbonReader{edgeReader: edgeReader{reader: scan(text), kind: ribbons()}}
	r.begin()
	r.sign(";")
	r.lists()
	if r.fault != api.OK {
		return api.Ribbon{}, r.at, r.fault
	}
	return api.Ribbon{Graph: r.graph(), Around: r.around}, 0, api.OK
}
