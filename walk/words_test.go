package walk_test

import (
	"math/rand"
	"slices"

	"lapidary/api"
	"lapidary/mesh"
)

// told is all that the chapter tells of a walk.
type told struct {
	steps []api.Step
	verts []int
	tris  []int
	canon api.Mesh
}

// having is the place of the triangle that has the directed edge from a to b, and its third vertex; -1 if there is none.
func having(l [][3]int, a, b int) (int, int) {
	for i, t := range l {
		for k := range t {
			if t[k] == a && t[(k+1)%3] == b {
				return i, t[(k+2)%3]
			}
		}
	}
	return -1, -1
}

// walkByWords goes over m by the chapter's words, and looks for whatever it needs from the beginning on.
func walkByWords(m api.Mesh) told {
	var w told
	met := make([]bool, len(m.T))
	num := func(v int) int { return slices.Index(w.verts, v) }
	meet := func(i int, t [3]int) {
		met[i] = true
		w.tris = append(w.tris, i)
		for _, v := range t {
			if num(v) < 0 {
				w.verts = append(w.verts, v)
				w.canon.P = append(w.canon.P, m.P[v])
			}
		}
		w.canon.T = append(w.canon.T, [3]int{num(t[0]), num(t[1]), num(t[2])})
	}
	for slices.Contains(met, false) {
		first := slices.Index(met, false)
		a, b, c := m.T[first][0], m.T[first][1], m.T[first][2]
		w.steps = append(w.steps, api.Step{Kind: 0})
		meet(first, m.T[first])
		gates := [][2]int{{a, b}, {b, c}, {c, a}}
		for len(gates) > 0 {
			p, q := gates[len(gates)-1][0], gates[len(gates)-1][1]
			gates = gates[:len(gates)-1]
			i, v := having(m.T, q, p)
			if i >= 0 && met[i] {
				continue
			}
			if i < 0 {
				w.steps = append(w.steps, api.Step{Kind: 1})
				continue
			}
			if num(v) >= 0 {
				w.steps = append(w.steps, api.Step{Kind: 3, V: num(v)})
			} else {
				w.steps = append(w.steps, api.Step{Kind: 2})
			}
			meet(i, [3]int{q, p, v})
			gates = append(gates, [2]int{p, v}, [2]int{v, q})
		}
	}
	return w
}

// over is a mesh of so many points, no two of them the same, and these triangles.
func over(points int, l ...[3]int) api.Mesh {
	m := api.Mesh{T: l}
	for i := range points {
		m.P = append(m.P, api.Point{X: 10 + i, Y: -3 * i, Z: 1 << 30})
	}
	return m
}

func one() api.Mesh {
	return over(3, [3]int{0, 1, 2})
}

func two() api.Mesh {
	return over(4, [3]int{0, 1, 2}, [3]int{2, 1, 3})
}

// pillow is closed, of two triangles, which have all three edges in common.
func pillow() api.Mesh {
	return over(3, [3]int{0, 1, 2}, [3]int{0, 2, 1})
}

func tetra() api.Mesh {
	return over(4, [3]int{0, 1, 2}, [3]int{0, 2, 3}, [3]int{0, 3, 1}, [3]int{1, 3, 2})
}

// wheel is n triangles all round the point 0.
func wheel(n int) api.Mesh {
	m := over(n + 1)
	for i := range n {
		m.T = append(m.T, [3]int{0, 1 + i, 1 + (i+1)%n})
	}
	return m
}

// ball is closed, n triangles round each of its two ends; n is at least 3.
func ball(n int) api.Mesh {
	m := over(n+2, wheel(n).T...)
	for i := range n {
		m.T = append(m.T, [3]int{n + 1, 1 + (i+1)%n, 1 + i})
	}
	return m
}

// band is n triangles, of which each has an edge in common with the one ahead of it.
func band(n int) api.Mesh {
	m := over(n + 2)
	for i := range n {
		m.T = append(m.T, [3]int{i, i + 1 + i%2, i + 2 - i%2})
	}
	return m
}

// hoop is such a row that goes round; n is even, and at least 6.
func hoop(n int) api.Mesh {
	m := over(n, band(n).T...)
	for i := range m.T {
		for k := range 3 {
			m.T[i][k] %= n
		}
	}
	return m
}

// torus is closed, with a handle: its points lie in a row that goes round it many times; n is at least 7.
func torus(n int) api.Mesh {
	m := over(n)
	for i := range n {
		m.T = append(m.T, [3]int{i, (i + 1) % n, (i + 3) % n}, [3]int{i, (i + 3) % n, (i + 2) % n})
	}
	return m
}

// beside is all of these, one behind the other, with nothing in common.
func beside(l ...api.Mesh) api.Mesh {
	var all [][3]int
	points := 0
	for _, m := range l {
		for _, t := range m.T {
			all = append(all, [3]int{points + t[0], points + t[1], points + t[2]})
		}
		points += len(m.P)
	}
	return over(points, all...)
}

// joined is both without their last triangles, the hole of one laid upon that of the other.
func joined(a, b api.Mesh) api.Mesh {
	x, y := a.T[len(a.T)-1], b.T[len(b.T)-1]
	points := len(a.P)
	num := make([]int, len(b.P))
	for v := range num {
		switch v { // the holes go round in opposite directions
		case y[0]:
			num[v] = x[0]
		case y[1]:
			num[v] = x[2]
		case y[2]:
			num[v] = x[1]
		default:
			num[v] = points
			points++
		}
	}
	l := slices.Clone(a.T[:len(a.T)-1])
	for _, t := range b.T[:len(b.T)-1] {
		l = append(l, [3]int{num[t[0]], num[t[1]], num[t[2]]})
	}
	return over(points, l...)
}

// without is m without some of its triangles, if it is a surface then.
func without(m api.Mesh, places ...int) api.Mesh {
	var l [][3]int
	for i, t := range m.T {
		if !slices.Contains(places, i) {
			l = append(l, t)
		}
	}
	return over(len(m.P), l...)
}

// turned is t, begun n places on.
func turned(t [3]int, n int) [3]int {
	return [3]int{t[n%3], t[(n+1)%3], t[(n+2)%3]}
}

// renamed is m with other numbers: each point has its own still.
func renamed(m api.Mesh, num []int) api.Mesh {
	to := api.Mesh{P: make([]api.Point, len(m.P))}
	for v, p := range m.P {
		to.P[num[v]] = p
	}
	for _, t := range m.T {
		to.T = append(to.T, [3]int{num[t[0]], num[t[1]], num[t[2]]})
	}
	return to
}

// behindFirst is m, the triangles behind its first one in any order, and begun anywhere.
func behindFirst(r *rand.Rand, m api.Mesh) api.Mesh {
	to := api.Mesh{P: m.P, T: slices.Clone(m.T)}
	if len(to.T) == 0 {
		return to
	}
	rest := to.T[1:]
	r.Shuffle(len(rest), func(i, j int) { rest[i], rest[j] = rest[j], rest[i] })
	for i, t := range rest {
		rest[i] = turned(t, r.Intn(3))
	}
	return to
}

// shuffled is m by other numbers, all triangles in any order, and begun anywhere.
func shuffled(r *rand.Rand, m api.Mesh) api.Mesh {
	m = renamed(m, r.Perm(len(m.P)))
	r.Shuffle(len(m.T), func(i, j int) { m.T[i], m.T[j] = m.T[j], m.T[i] })
	for i, t := range m.T {
		m.T[i] = turned(t, r.Intn(3))
	}
	return m
}

// ofOnePiece are small surfaces of one piece: with a border and without, with a handle or two and without.
func ofOnePiece() []api.Mesh {
	return []api.Mesh{
		one(),
		two(),
		pillow(),
		tetra(),
		wheel(3),
		wheel(4),
		wheel(9),
		ball(3),
		ball(4),
		ball(7),
		band(3),
		band(4),
		band(12),
		hoop(6),
		hoop(8),
		torus(7),
		torus(8),
		torus(15),
		without(wheel(6), 3),
		without(tetra(), 0),
		without(ball(5), 2),
		without(ball(6), 1, 9),
		without(torus(7), 4),
		without(torus(12), 3, 17),
		joined(torus(7), torus(7)),
		joined(torus(9), torus(8)),
		joined(joined(torus(7), ball(5)), torus(10)),
		without(joined(torus(8), torus(7)), 5),
	}
}

func ofSeveralPieces() []api.Mesh {
	return []api.Mesh{
		beside(one(), one()),
		beside(one(), two(), one()),
		beside(pillow(), pillow()),
		beside(band(3), tetra()),
		beside(torus(7), wheel(4), hoop(6)),
		beside(torus(7), torus(7), joined(torus(7), torus(8))),
		beside(one(), pillow(), ball(4), band(5), without(ball(4), 0)),
	}
}

// surfaces are small ones of all kinds, and that of no triangles.
func surfaces() []api.Mesh {
	return slices.Concat([]api.Mesh{{}}, ofOnePiece(), ofSeveralPieces())
}

// drawn is a surface with some triangles fewer than one of these has, if it is one then.
func drawn(r *rand.Rand, from []api.Mesh) api.Mesh {
	m := from[r.Intn(len(from))]
	for range r.Intn(12) {
		if fewer := without(m, r.Intn(len(m.T)+1)); mesh.Check(fewer) == api.OK {
			m = fewer
		}
	}
	return shuffled(r, m)
}
