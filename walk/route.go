package walk

import (
	"slices"

	"lapidary/api"
	"lapidary/mesh"
)

// none is the new number of a vertex that was not met yet.
const none = -1

// edge goes from a vertex to another one.
type edge [2]int

// side is the triangle that has an edge: its place, and its vertex that is not of the edge.
type side struct {
	tri int
	off int
}

// route is how far a walk has come.
type route struct {
	sides map[edge]side // of the whole surface
	met   []bool        // of each triangle whether it was met
	num   []int         // of each vertex its new number, or none
	gates []edge        // a pile: the last one laid is the first one taken

	steps []api.Step
	verts []int    // of each new number the vertex that has it
	tris  []int    // the places of triangles, as they are met
	canon [][3]int // these triangles by new numbers, each as it is met
}

// over is the whole walk over m, or what is wrong with m.
func over(m api.Mesh) (*route, api.Errno) {
	if err := mesh.Check(m); err != api.OK {
		return nil, err
	}
	r := &route{
		sides: sidesOf(m.T),
		met:   make([]bool, len(m.T)),
		num:   slices.Repeat([]int{none}, len(m.P)),
	}
seeds:
	for i, t := range m.T {
		if r.met[i] {
			continue seeds
		}
		r.begin(i, t)
		for {
			gate, ok := r.take()
			switch {
			case ok:
				r.pass(gate)
			case len(r.tris) == len(m.T): // no piece is left
				break seeds
			default:
				continue seeds
			}
		}
	}
	return r, api.OK
}

// sidesOf has each edge of these triangles; on a surface no two have the same.
func sidesOf(l [][3]int) map[edge]side {
	s := make(map[edge]side, 3*len(l))
	for i, t := range l {
		a, b, c := t[0], t[1], t[2]
		s[edge{a, b}] = side{tri: i, off: c}
		s[edge{b, c}] = side{tri: i, off: a}
		s[edge{c, a}] = side{tri: i, off: b}
	}
	return s
}

// begin meets the i-th triangle, t, of a piece of which nothing was met.
func (r *route) begin(i int, t [3]int) {
	a, b, c := t[0], t[1], t[2]
	r.tell(api.Seed, 0)
	r.number(a, b, c)
	r.meet(i, a, b, c)
	r.lay(edge{a, b}, edge{b, c}, edge{c, a})
}

// pass tells what is behind a gate, and meets it if it is a triangle that was not met.
func (r *route) pass(gate edge) {
	p, q := gate[0], gate[1]
	next, ok := r.sides[edge{q, p}]
	switch {
	case !ok:
		r.tell(api.Border, 0)
	case !r.met[next.tri]:
		v := next.off
		r.reach(v)
		r.meet(next.tri, q, p, v)
		r.lay(edge{p, v}, edge{v, q})
	}
}

// reach tells of the vertex behind a gate whether it is known, and meets it if it is not.
func (r *route) reach(v int) {
	if r.num[v] != none {
		r.tell(api.Known, r.num[v])
		return
	}
	r.tell(api.Fresh, 0)
	r.number(v)
}

func (r *route) tell(kind, v int) {
	r.steps = append(r.steps, api.Step{Kind: kind, V: v})
}

// number gives these vertices, which are met now, the next numbers.
func (r *route) number(l ...int) {
	for _, v := range l {
		r.num[v] = len(r.verts)
		r.verts = append(r.verts, v)
	}
}

// meet takes the i-th triangle as it is met, from a on; its vertices have their numbers.
func (r *route) meet(i, a, b, c int) {
	r.met[i] = true
	r.tris = append(r.tris, i)
	r.canon = append(r.canon, [3]int{r.num[a], r.num[b], r.num[c]})
}

func (r *route) lay(l ...edge) {
	r.gates = append(r.gates, l...)
}

// take takes the last gate from the pile, if there is one.
func (r *route) take() (edge, bool) {
	last := len(r.gates) - 1
	if last < 0 {
		return edge{}, false
	}
	gate := r.gates[last]
	r.gates = r.gates[:last]
	return gate, true
}
