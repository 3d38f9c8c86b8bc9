package grow

import (
	"lapidary/api"
)

// newTris and newVerts have of each kind of step how many triangles and vertices it makes.
var (
	newTris  = [4]int{api.Seed: 1, api.Border: 0, api.Fresh: 1, api.Known: 1}
	newVerts = [4]int{api.Seed: 3, api.Border: 0, api.Fresh: 1, api.Known: 0}
)

// edge goes from a vertex to another one.
type edge [2]int

// back is the opposite edge.
func (e edge) back() edge {
	return edge{e[1], e[0]}
}

// refusal is what is wrong with s as the next step. The last gate, if there is one, is not shut.
func (g *Grower) refusal(s api.Step) api.Errno {
	begins := s.Kind == api.Seed
	switch {
	case s.Kind < 0 || s.Kind >= len(newTris),
		s.V != 0 && s.Kind != api.Known,
		begins == (len(g.gates) > 0):
		return api.ErrForm
	case len(g.tris)+newTris[s.Kind] > api.MaxTris,
		g.verts+newVerts[s.Kind] > api.MaxVerts:
		return api.ErrLong
	case s.Kind == api.Known:
		return g.refusalOf(s.V)
	}
	return api.OK
}

// refusalOf is what is wrong with v as the known vertex behind the last gate.
func (g *Grower) refusalOf(v int) api.Errno {
	gate := g.gates[len(g.gates)-1]
	p, q := gate[0], gate[1]
	switch {
	case v < 0, v >= g.verts, v == p, v == q:
		return api.ErrForm
	case g.isUsed(edge{p, v}), g.isUsed(edge{v, q}):
		return api.ErrEdge
	}
	return api.OK
}

// begin makes a triangle of three new vertices.
func (g *Grower) begin() {
	a, b, c := g.fresh(), g.fresh(), g.fresh()
	g.add(a, b, c)
	g.lay(edge{a, b}, edge{b, c}, edge{c, a})
}

// end has the surface end at the last gate.
func (g *Grower) end() {
	g.use(g.take().back())
}

// pass makes a triangle behind the last gate: v is its vertex that is not of the gate.
func (g *Grower) pass(v int) {
	gate := g.take()
	p, q := gate[0], gate[1]
	g.add(q, p, v)
	g.lay(edge{p, v}, edge{v, q})
}

// fresh is the number of a new vertex.
func (g *Grower) fresh() int {
	g.verts++
	return g.verts - 1
}

func (g *Grower) add(a, b, c int) {
	g.tris = append(g.tris, [3]int{a, b, c})
	g.use(edge{a, b}, edge{b, c}, edge{c, a})
}

func (g *Grower) use(l ...edge) {
	if g.used == nil {
		g.used = map[edge]struct{}{}
	}
	for _, e := range l {
		g.used[e] = struct{}{}
	}
}

func (g *Grower) isUsed(e edge) bool {
	_, ok := g.used[e]
	return ok
}

// isShut tells whether a triangle is behind a gate of the pile. It is no border that is used there: that would have taken the gate.
func (g *Grower) isShut(gate edge) bool {
	return g.isUsed(gate.back())
}

func (g *Grower) lay(l ...edge) {
	g.gates = append(g.gates, l...)
}

// take takes the last gate from the pile.
func (g *Grower) take() edge {
	last := len(g.gates) - 1
	gate := g.gates[last]
	g.cut(last)
	return gate
}

// takeShut takes shut gates from the pile's end.
func (g *Grower) takeShut() {
	n := len(g.gates)
	for n > 0 && g.isShut(g.gates[n-1]) {
		n--
	}
	g.cut(n)
}

// cut leaves the first n gates, and room for as many again: a pile that was long once goes on in less memory.
func (g *Grower) cut(n int) {
	g.gates = g.gates[:n:min(2*n, cap(g.gates))]
}
