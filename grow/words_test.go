package grow_test

import (
	"math/rand"
	"slices"

	"lapidary/api"
	"lapidary/mesh"
)

// byWords is a grower by the chapter's words, which looks for whatever it needs from the beginning on.
type byWords struct {
	tris    [][3]int
	verts   int
	gates   [][2]int
	borders [][2]int
	told    api.Errno
}

func (g *byWords) copy() *byWords {
	return &byWords{slices.Clone(g.tris), g.verts, slices.Clone(g.gates), slices.Clone(g.borders), g.told}
}

// has tells whether a triangle has the directed edge from a to b.
func (g *byWords) has(a, b int) bool {
	return slices.ContainsFunc(g.tris, func(t [3]int) bool {
		return t[0] == a && t[1] == b || t[1] == a && t[2] == b || t[2] == a && t[0] == b
	})
}

func (g *byWords) isBorder(a, b int) bool {
	return slices.Contains(g.borders, [2]int{a, b})
}

func (g *byWords) step(l ...api.Step) api.Errno {
	for _, s := range l {
		if g.told == 0 {
			g.told = g.one(s)
		}
	}
	return g.told
}

func (g *byWords) one(s api.Step) api.Errno {
	for len(g.gates) > 0 {
		last := g.gates[len(g.gates)-1]
		if !g.has(last[1], last[0]) {
			break
		}
		g.gates = g.gates[:len(g.gates)-1]
	}
	if s.Kind != 0 && s.Kind != 1 && s.Kind != 2 && s.Kind != 3 {
		return 11
	}
	if s.V != 0 && s.Kind != 3 {
		return 11
	}
	if s.Kind == 0 && len(g.gates) > 0 || s.Kind != 0 && len(g.gates) == 0 {
		return 11
	}
	if len(g.tris) >= 8000 && s.Kind != 1 {
		return 3
	}
	if s.Kind == 0 && g.verts+3 > 4000 || s.Kind == 2 && g.verts+1 > 4000 {
		return 3
	}
	if s.Kind == 0 {
		n := g.verts
		g.verts += 3
		g.tris = append(g.tris, [3]int{n, n + 1, n + 2})
		g.gates = append(g.gates, [2]int{n, n + 1}, [2]int{n + 1, n + 2}, [2]int{n + 2, n})
		return 0
	}
	return g.behind(s)
}

// behind does a step that takes the last gate.
func (g *byWords) behind(s api.Step) api.Errno {
	p, q := g.gates[len(g.gates)-1][0], g.gates[len(g.gates)-1][1]
	v := s.V
	switch s.Kind {
	case 1:
		g.gates = g.gates[:len(g.gates)-1]
		g.borders = append(g.borders, [2]int{q, p})
		return 0
	case 2:
		v = g.verts
		g.verts++
	case 3:
		if v < 0 || v > g.verts-1 || v == p || v == q {
			return 11
		}
		if g.has(p, v) || g.has(v, q) || g.isBorder(p, v) || g.isBorder(v, q) {
			return 80
		}
	}
	g.gates = append(g.gates[:len(g.gates)-1], [2]int{p, v}, [2]int{v, q})
	g.tris = append(g.tris, [3]int{q, p, v})
	return 0
}

func (g *byWords) open() int {
	n := 0
	for _, gate := range g.gates {
		if !g.has(gate[1], gate[0]) {
			n++
		}
	}
	return n
}

func (g *byWords) close() ([][3]int, api.Errno) {
	if g.told != 0 {
		return nil, g.told
	}
	if g.open() > 0 {
		return nil, 10
	}
	if e := mesh.Check(flat(g.verts, g.tris)); e != 0 {
		return nil, e
	}
	return g.tris, 0
}

// all are the steps that a grower may be given next, and some that it may not.
func (g *byWords) all() []api.Step {
	l := []api.Step{{Kind: 0}, {Kind: 1}, {Kind: 2}, {Kind: -1}, {Kind: 4}, {Kind: 0, V: 1}, {Kind: 1, V: 1}, {Kind: 2, V: -1}}
	for v := -1; v <= g.verts; v++ {
		l = append(l, api.Step{Kind: 3, V: v})
	}
	return l
}

// may are those of all that are no error, in any order.
func (g *byWords) may(r *rand.Rand) []api.Step {
	l := slices.DeleteFunc(g.all(), func(s api.Step) bool { return g.copy().step(s) != 0 })
	r.Shuffle(len(l), func(i, j int) { l[i], l[j] = l[j], l[i] })
	return l
}

// drawn are up to so many steps without an error, most of them of triangles, and then borders of all that is left open.
func drawn(r *rand.Rand, most int) []api.Step {
	var g byWords
	var l []api.Step
	add := func(s api.Step) {
		l = append(l, s)
		g.step(s)
	}
	for range most {
		may := g.may(r)
		if len(may) == 0 {
			break
		}
		s := may[0]
		if s.Kind == api.Border && len(may) > 1 && r.Intn(3) > 0 {
			s = may[1]
		}
		if s.Kind == api.Fresh && len(may) > 1 && r.Intn(3) > 0 {
			s = may[1]
		}
		add(s)
	}
	for g.open() > 0 {
		add(api.Step{Kind: api.Border})
	}
	return l
}

// flat is a mesh of so many points, all of them (0, 0, 0).
func flat(points int, l [][3]int) api.Mesh {
	return api.Mesh{P: make([]api.Point, points), T: l}
}

// wheel is n triangles all round the point 0.
func wheel(n int) api.Mesh {
	var l [][3]int
	for i := range n {
		l = append(l, [3]int{0, 1 + i, 1 + (i+1)%n})
	}
	return flat(n+1, l)
}

// ball is closed, n triangles round each of its two ends; n is at least 3.
func ball(n int) api.Mesh {
	l := wheel(n).T
	for i := range n {
		l = append(l, [3]int{n + 1, 1 + (i+1)%n, 1 + i})
	}
	return flat(n+2, l)
}

// band is n triangles, of which each has an edge in common with the one ahead of it.
func band(n int) api.Mesh {
	var l [][3]int
	for i := range n {
		l = append(l, [3]int{i, i + 1 + i%2, i + 2 - i%2})
	}
	return flat(n+2, l)
}

// hoop is such a row that goes round; n is even, and at least 6.
func hoop(n int) api.Mesh {
	l := band(n).T
	for i := range l {
		for k := range 3 {
			l[i][k] %= n
		}
	}
	return flat(n, l)
}

// torus is closed, with a handle: its points lie in a row that goes round it many times; n is at least 7.
func torus(n int) api.Mesh {
	var l [][3]int
	for i := range n {
		l = append(l, [3]int{i, (i + 1) % n, (i + 3) % n}, [3]int{i, (i + 3) % n, (i + 2) % n})
	}
	return flat(n, l)
}

// beside is all of these, one behind the other, with nothing in common.
func beside(meshes ...api.Mesh) api.Mesh {
	var l [][3]int
	points := 0
	for _, m := range meshes {
		for _, t := range m.T {
			l = append(l, [3]int{points + t[0], points + t[1], points + t[2]})
		}
		points += len(m.P)
	}
	return flat(points, l)
}

// joined is both without their last triangles, the hole of one laid upon that of the other.
func joined(a, b api.Mesh) api.Mesh {
	x, y := a.T[len(a.T)-1], b.T[len(b.T)-1]
	upon := map[int]int{y[0]: x[0], y[1]: x[2], y[2]: x[1]} // the holes go round in opposite directions
	points := len(a.P)
	for v := range b.P {
		if _, ok := upon[v]; !ok {
			upon[v] = points
			points++
		}
	}
	l := slices.Clone(a.T[:len(a.T)-1])
	for _, t := range b.T[:len(b.T)-1] {
		l = append(l, [3]int{upon[t[0]], upon[t[1]], upon[t[2]]})
	}
	return flat(points, l)
}

// without is m without the triangles at these places.
func without(m api.Mesh, places ...int) api.Mesh {
	var l [][3]int
	for i, t := range m.T {
		if !slices.Contains(places, i) {
			l = append(l, t)
		}
	}
	return flat(len(m.P), l)
}

// fewer is m without some triangles, if it is a surface then.
func fewer(r *rand.Rand, m api.Mesh) api.Mesh {
	for range r.Intn(8) {
		if less := without(m, r.Intn(len(m.T)+1)); mesh.Check(less) == api.OK {
			m = less
		}
	}
	return m
}

// shuffled is m by other numbers, all triangles in any order, and begun anywhere.
func shuffled(r *rand.Rand, m api.Mesh) api.Mesh {
	num := r.Perm(len(m.P))
	l := make([][3]int, len(m.T))
	for i, to := range r.Perm(len(m.T)) {
		t, k := m.T[i], r.Intn(3)
		l[to] = [3]int{num[t[k]], num[t[(k+1)%3]], num[t[(k+2)%3]]}
	}
	return flat(len(m.P), l)
}

// surfaces are small ones: with a border and without, with handles and without, of one piece and of several.
func surfaces() []api.Mesh {
	return []api.Mesh{
		{},
		band(1),
		band(2),
		band(9),
		wheel(3),
		wheel(8),
		ball(3),
		ball(6),
		hoop(6),
		hoop(12),
		torus(7),
		torus(11),
		without(ball(4), 0),
		without(ball(7), 1, 10),
		without(torus(7), 4),
		without(torus(12), 3, 17),
		joined(torus(7), torus(8)),
		joined(joined(torus(7), ball(5)), torus(9)),
		without(joined(torus(8), torus(7)), 5),
		beside(band(1), band(1)),
		beside(band(1), ball(3), wheel(4)),
		beside(torus(7), joined(torus(7), torus(7)), hoop(8), band(3)),
		beside(without(torus(9), 0), without(ball(5), 6), torus(8)),
	}
}
