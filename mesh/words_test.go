package mesh

import (
	"math/rand"
	"slices"

	"lapidary/api"
)

// The chapter's words, each pair of triangles held against one another, and each pair of points, without any map.

// hasEdge tells whether t has the directed edge from a to b.
func hasEdge(t [3]int, a, b int) bool {
	return t[0] == a && t[1] == b || t[1] == a && t[2] == b || t[2] == a && t[0] == b
}

func names(t [3]int, v int) bool {
	return t[0] == v || t[1] == v || t[2] == v
}

// ofOne puts together whatever is joined, over however many: equal numbers are of one.
func ofOne(n int, joined func(i, j int) bool) []int {
	l := make([]int, n)
	for i := range l {
		l[i] = i
	}
	for again := true; again; {
		again = false
		for i := range n {
			for j := range n {
				if l[i] < l[j] && (joined(i, j) || joined(j, i)) {
					l[j] = l[i]
					again = true
				}
			}
		}
	}
	return l
}

func isCoordByWords(n int) bool {
	return n >= -1<<31 && n <= 1<<31-1
}

func isTriangleByWords(t [3]int, points int) bool {
	for _, v := range t {
		if v < 0 || v > points-1 {
			return false
		}
	}
	return t[0] != t[1] && t[1] != t[2] && t[2] != t[0]
}

func isOneFanByWords(l [][3]int, v int) bool {
	var at [][3]int
	for _, t := range l {
		if names(t, v) {
			at = append(at, t)
		}
	}
	if len(at) == 0 {
		return false
	}
	one := ofOne(len(at), func(i, j int) bool {
		for _, t := range l {
			for _, w := range t {
				if hasEdge(at[i], v, w) && hasEdge(at[j], w, v) {
					return true
				}
			}
		}
		return false
	})
	return slices.Max(one) == 0
}

func checkByWords(m api.Mesh) api.Errno {
	if len(m.P) > 4000 || len(m.T) > 8000 {
		return api.ErrLong
	}
	for _, p := range m.P {
		if !isCoordByWords(p.X) || !isCoordByWords(p.Y) || !isCoordByWords(p.Z) {
			return api.ErrArg
		}
	}
	for _, t := range m.T {
		if !isTriangleByWords(t, len(m.P)) {
			return api.ErrArg
		}
	}
	for i, t := range m.T {
		for j, u := range m.T {
			if i != j && (hasEdge(u, t[0], t[1]) || hasEdge(u, t[1], t[2]) || hasEdge(u, t[2], t[0])) {
				return api.ErrEdge
			}
		}
	}
	for v := range m.P {
		if !isOneFanByWords(m.T, v) {
			return api.ErrVertex
		}
	}
	return api.OK
}

func oneHasEdge(m api.Mesh, a, b int) bool {
	return slices.ContainsFunc(m.T, func(t [3]int) bool { return hasEdge(t, a, b) })
}

// pairs are those two points, in rising order, of which it is told so.
func pairs(m api.Mesh, so func(a, b int) bool) [][2]int {
	var l [][2]int
	for a := range m.P {
		for b := range m.P {
			if so(a, b) {
				l = append(l, [2]int{a, b})
			}
		}
	}
	return l
}

func edgesByWords(m api.Mesh) [][2]int {
	return pairs(m, func(a, b int) bool { return a < b && (oneHasEdge(m, a, b) || oneHasEdge(m, b, a)) })
}

func borderByWords(m api.Mesh) [][2]int {
	return pairs(m, func(a, b int) bool { return oneHasEdge(m, a, b) && !oneHasEdge(m, b, a) })
}

func piecesByWords(m api.Mesh) []int {
	one := ofOne(len(m.T), func(i, j int) bool {
		t, u := m.T[i], m.T[j]
		return hasEdge(u, t[1], t[0]) || hasEdge(u, t[2], t[1]) || hasEdge(u, t[0], t[2])
	})
	var firsts, l []int
	for _, first := range one {
		if !slices.Contains(firsts, first) {
			firsts = append(firsts, first)
		}
		l = append(l, slices.Index(firsts, first))
	}
	return l
}

func eulerByWords(m api.Mesh) int {
	return len(m.P) - len(edgesByWords(m)) + len(m.T)
}

// turnedByWords is t, begun n places on.
func turnedByWords(t [3]int, n int) [3]int {
	switch n {
	case 1:
		return [3]int{t[1], t[2], t[0]}
	case 2:
		return [3]int{t[2], t[0], t[1]}
	}
	return t
}

// over is a mesh of so many points, no two of them the same, and these triangles.
func over(points int, l ...[3]int) api.Mesh {
	m := api.Mesh{T: l}
	for i := range points {
		m.P = append(m.P, api.Point{X: i, Y: -2 * i, Z: 1 << 30})
	}
	return m
}

func one() api.Mesh {
	return over(3, [3]int{0, 1, 2})
}

func two() api.Mesh {
	return over(4, [3]int{0, 1, 2}, [3]int{2, 1, 3})
}

// pillow is closed, of two triangles, which have all three edges in common.
func pillow() api.Mesh {
	return over(3, [3]int{0, 1, 2}, [3]int{0, 2, 1})
}

func tetra() api.Mesh {
	return over(4, [3]int{0, 2, 1}, [3]int{0, 1, 3}, [3]int{1, 2, 3}, [3]int{2, 0, 3})
}

func octa() api.Mesh {
	return over(6, [3]int{0, 1, 2}, [3]int{0, 2, 3}, [3]int{0, 3, 4}, [3]int{0, 4, 1},
		[3]int{5, 2, 1}, [3]int{5, 3, 2}, [3]int{5, 4, 3}, [3]int{5, 1, 4})
}

// wheel is n triangles round the point 0: closed there, or open.
func wheel(n int, closed bool) api.Mesh {
	m := over(n + 2)
	for i := range n {
		m.T = append(m.T, [3]int{0, i + 1, i + 2})
	}
	if closed {
		m.P = m.P[:n+1]
		m.T[n-1][2] = 1
	}
	return m
}

// strip is triangles in a row, a disc of as many points and two triangles fewer.
func strip(points int) api.Mesh {
	m := over(points)
	for i := range points - 2 {
		t := [3]int{i, i + 1, i + 2}
		if i%2 == 1 {
			t[1], t[2] = t[2], t[1]
		}
		m.T = append(m.T, t)
	}
	return m
}

// sheet is squares of two triangles, w by h; laid round, its last points are its first ones again: in one way it is a
// ring then, in both a torus.
func sheet(w, h int, roundX, roundY bool) api.Mesh {
	across, down := w+1, h+1
	if roundX {
		across = w
	}
	if roundY {
		down = h
	}
	m := over(across * down)
	at := func(x, y int) int { return x%across + y%down*across }
	for y := range h {
		for x := range w {
			a, b, c, d := at(x, y), at(x+1, y), at(x+1, y+1), at(x, y+1)
			m.T = append(m.T, [3]int{a, b, c}, [3]int{a, c, d})
		}
	}
	return m
}

func disc(w, h int) api.Mesh {
	return sheet(w, h, false, false)
}

func hoop(w, h int) api.Mesh {
	return sheet(w, h, true, false)
}

func torus(w, h int) api.Mesh {
	return sheet(w, h, true, true)
}

// moved is m with other numbers: those of its points are n greater.
func moved(m api.Mesh, n int) [][3]int {
	var l [][3]int
	for _, t := range m.T {
		l = append(l, [3]int{t[0] + n, t[1] + n, t[2] + n})
	}
	return l
}

// beside is all of these, one behind the other, with nothing in common.
func beside(l ...api.Mesh) api.Mesh {
	var all api.Mesh
	for _, m := range l {
		all.T = append(all.T, moved(m, len(all.P))...)
		all.P = append(all.P, m.P...)
	}
	return over(len(all.P), all.T...)
}

// instead is m with w in v's place, and v no point any more: those behind it have a number less.
func instead(m api.Mesh, v, w int) api.Mesh {
	var l [][3]int
	for _, t := range m.T {
		for k, x := range t {
			if x == v {
				x = w
			}
			if x > v {
				x--
			}
			t[k] = x
		}
		l = append(l, t)
	}
	return over(len(m.P)-1, l...)
}

// joined is both with one point in common: a's v, and b's w.
func joined(a api.Mesh, v int, b api.Mesh, w int) api.Mesh {
	return instead(beside(a, b), len(a.P)+w, v)
}

// handle is both without their last triangles, a's hole joined with b's: of two tori it has two holes to reach through.
func handle(a, b api.Mesh) api.Mesh {
	t, u := a.T[len(a.T)-1], moved(b, len(a.P))[len(b.T)-1]
	a.T, b.T = a.T[:len(a.T)-1], b.T[:len(b.T)-1]
	m := beside(a, b)
	// The holes go round in opposite directions.
	same := [][2]int{{u[0], t[0]}, {u[1], t[2]}, {u[2], t[1]}}
	slices.SortFunc(same, func(x, y [2]int) int { return y[0] - x[0] })
	for _, x := range same {
		m = instead(m, x[0], x[1])
	}
	return m
}

// without is m without its i-th triangle.
func without(m api.Mesh, i int) api.Mesh {
	return over(len(m.P), slices.Delete(slices.Clone(m.T), i, i+1)...)
}

// renamed is m with other numbers.
func renamed(m api.Mesh, num []int) api.Mesh {
	to := api.Mesh{P: make([]api.Point, len(m.P))}
	for v, p := range m.P {
		to.P[num[v]] = p
	}
	for _, t := range m.T {
		to.T = append(to.T, [3]int{num[t[0]], num[t[1]], num[t[2]]})
	}
	return to
}

// placed is m with its triangles in this order, each begun so many places on.
func placed(m api.Mesh, order, by []int) api.Mesh {
	to := api.Mesh{P: m.P}
	for _, i := range order {
		to.T = append(to.T, turnedByWords(m.T[i], by[i]))
	}
	return to
}

func drawnBy(r *rand.Rand, n int) []int {
	by := make([]int, n)
	for i := range by {
		by[i] = r.Intn(3)
	}
	return by
}

// shuffled is m by other numbers, in any order, and begun anywhere.
func shuffled(r *rand.Rand, m api.Mesh) api.Mesh {
	m = renamed(m, r.Perm(len(m.P)))
	return placed(m, r.Perm(len(m.T)), drawnBy(r, len(m.T)))
}

// around are all triangles of so many points, each once and begun at its least point.
func around(points int) [][3]int {
	var l [][3]int
	for a := range points {
		for b := a + 1; b < points; b++ {
			for c := a + 1; c < points; c++ {
				if b != c {
					l = append(l, [3]int{a, b, c})
				}
			}
		}
	}
	return l
}

// surfaces are small ones of all kinds.
func surfaces() []api.Mesh {
	return []api.Mesh{
		{},
		one(),
		two(),
		pillow(),
		tetra(),
		octa(),
		wheel(1, false),
		wheel(2, false),
		wheel(3, false),
		wheel(7, false),
		wheel(3, true),
		wheel(4, true),
		wheel(7, true),
		strip(3),
		strip(9),
		disc(1, 1),
		disc(3, 2),
		hoop(3, 1),
		hoop(3, 2),
		hoop(4, 3),
		torus(3, 3),
		torus(4, 3),
		without(tetra(), 0),
		without(tetra(), 3),
		without(octa(), 2),
		without(torus(3, 4), 5),
		handle(torus(3, 3), torus(3, 4)),
		handle(tetra(), torus(3, 3)),
		without(handle(torus(3, 3), torus(3, 3)), 0),
		beside(one(), one()),
		beside(one(), pillow(), two()),
		beside(tetra(), tetra()),
		beside(torus(3, 3), octa(), hoop(3, 1), disc(1, 2)),
	}
}

// drawnSurface is one of these with some triangles fewer, or more than one: most of them are surfaces.
func drawnSurface(r *rand.Rand) api.Mesh {
	all := surfaces()
	m := all[r.Intn(len(all))]
	switch r.Intn(4) {
	case 0:
		m = beside(m, all[r.Intn(12)])
	case 1:
		if len(m.T) > 0 {
			m = without(m, r.Intn(len(m.T)))
		}
	}
	return shuffled(r, m)
}

// drawnMesh is one that is a surface, or nearly one, or none.
func drawnMesh(r *rand.Rand) api.Mesh {
	m := drawnSurface(r)
	for range r.Intn(3) {
		spoil(r, &m)
	}
	return m
}

// spoil changes one thing, which may make another surface.
func spoil(r *rand.Rand, m *api.Mesh) {
	if len(m.P) < 2 || len(m.T) == 0 {
		return
	}
	i, v := r.Intn(len(m.T)), r.Intn(len(m.P))
	switch r.Intn(7) {
	case 0:
		m.T[i][r.Intn(3)] = v
	case 1:
		m.T[i][0], m.T[i][1] = m.T[i][1], m.T[i][0]
	case 2:
		m.T = append(m.T, m.T[i])
	case 3:
		m.P = append(m.P, api.Point{X: r.Int()})
	case 4:
		*m = without(*m, i)
	case 5:
		w := r.Intn(len(m.P))
		if v != w {
			*m = instead(*m, v, w)
		}
	case 6:
		m.T[i][r.Intn(3)] = drawnWord(r)
	}
}

// drawnWord is any, of any length.
func drawnWord(r *rand.Rand) int {
	return int(r.Uint64()) >> r.Intn(64)
}
