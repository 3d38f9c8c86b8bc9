package iso_test

import (
	"math/rand"
	"slices"

	"lapidary/api"
	"lapidary/mesh"
)

// isNumbering tells by the chapter's words whether num is a numbering of n things.
func isNumbering(num []int, n int) bool {
	for k := range n {
		times := 0
		for _, x := range num {
			if x == k {
				times++
			}
		}
		if times != 1 {
			return false
		}
	}
	return len(num) == n
}

func backByWords(num []int) ([]int, bool) {
	if !isNumbering(num, len(num)) {
		return nil, false
	}
	var l []int
	for n := range num {
		l = append(l, slices.Index(num, n))
	}
	return l, true
}

func renamedByWords(m api.Mesh, num []int) (api.Mesh, api.Errno) {
	if e := mesh.Check(m); e != 0 {
		return api.Mesh{}, e
	}
	if !isNumbering(num, len(m.P)) {
		return api.Mesh{}, 2
	}
	to := api.Mesh{P: make([]api.Point, len(m.P)), T: make([][3]int, len(m.T))}
	for v, n := range num {
		to.P[n] = m.P[v]
	}
	for i, t := range m.T {
		for k, v := range t {
			to.T[i][k] = num[v]
		}
	}
	return to, 0
}

// isByWords looks for each triangle of one among those of the other.
func isByWords(a, b api.Mesh, num []int) bool {
	if mesh.Check(a) != 0 || mesh.Check(b) != 0 || !isNumbering(num, len(a.P)) || len(b.P) != len(a.P) {
		return false
	}
	for v, p := range a.P {
		if p != b.P[num[v]] {
			return false
		}
	}
	named, _ := renamedByWords(a, num)
	return areAmong(named.T, b.T) && areAmong(b.T, named.T)
}

func areAmong(l, those [][3]int) bool {
	for _, t := range l {
		if !slices.ContainsFunc(those, func(k [3]int) bool {
			return t == k || t == [3]int{k[1], k[2], k[0]} || t == [3]int{k[2], k[0], k[1]}
		}) {
			return false
		}
	}
	return true
}

// ahead is m, its t-th triangle first, begun at its k-th vertex.
func ahead(m api.Mesh, t, k int) api.Mesh {
	to := api.Mesh{P: m.P, T: [][3]int{turned(m.T[t], k)}}
	for i, other := range m.T {
		if i != t {
			to.T = append(to.T, other)
		}
	}
	return to
}

// turned is t, begun n places on.
func turned(t [3]int, n int) [3]int {
	return [3]int{t[n%3], t[(n+1)%3], t[(n+2)%3]}
}

// over is a mesh of so many points, no two of them the same, and these triangles.
func over(points int, l ...[3]int) api.Mesh {
	m := api.Mesh{T: l}
	for i := range points {
		m.P = append(m.P, api.Point{X: 10 + i, Y: -3 * i, Z: 1 << 30})
	}
	return m
}

// flat is m, all of its points (0, 0, 0).
func flat(m api.Mesh) api.Mesh {
	return api.Mesh{P: make([]api.Point, len(m.P)), T: m.T}
}

func one() api.Mesh {
	return over(3, [3]int{0, 1, 2})
}

func two() api.Mesh {
	return over(4, [3]int{0, 1, 2}, [3]int{2, 1, 3})
}

// pillow is closed, of two triangles, which have all three edges in common.
func pillow() api.Mesh {
	return over(3, [3]int{0, 1, 2}, [3]int{0, 2, 1})
}

func tetra() api.Mesh {
	return over(4, [3]int{0, 1, 2}, [3]int{0, 2, 3}, [3]int{0, 3, 1}, [3]int{1, 3, 2})
}

// wheel is n triangles all round the point 0.
func wheel(n int) api.Mesh {
	m := over(n + 1)
	for i := range n {
		m.T = append(m.T, [3]int{0, 1 + i, 1 + (i+1)%n})
	}
	return m
}

// ball is closed, n triangles round each of its two ends; n is at least 3.
func ball(n int) api.Mesh {
	m := over(n+2, wheel(n).T...)
	for i := range n {
		m.T = append(m.T, [3]int{n + 1, 1 + (i+1)%n, 1 + i})
	}
	return m
}

// band is n triangles, of which each has an edge in common with the one ahead of it.
func band(n int) api.Mesh {
	m := over(n + 2)
	for i := range n {
		m.T = append(m.T, [3]int{i, i + 1 + i%2, i + 2 - i%2})
	}
	return m
}

// hoop is such a row that goes round; n is even, and at least 6.
func hoop(n int) api.Mesh {
	m := over(n, band(n).T...)
	for i := range m.T {
		for k := range 3 {
			m.T[i][k] %= n
		}
	}
	return m
}

// torus is closed, with a handle: its points lie in a row that goes round it many times; n is at least 7.
func torus(n int) api.Mesh {
	m := over(n)
	for i := range n {
		m.T = append(m.T, [3]int{i, (i + 1) % n, (i + 3) % n}, [3]int{i, (i + 3) % n, (i + 2) % n})
	}
	return m
}

// beside is all of these, one behind the other, with nothing in common.
func beside(meshes ...api.Mesh) api.Mesh {
	var l [][3]int
	points := 0
	for _, m := range meshes {
		for _, t := range m.T {
			l = append(l, [3]int{points + t[0], points + t[1], points + t[2]})
		}
		points += len(m.P)
	}
	return over(points, l...)
}

// joined is both without their last triangles, the hole of one laid upon that of the other.
func joined(a, b api.Mesh) api.Mesh {
	x, y := a.T[len(a.T)-1], b.T[len(b.T)-1]
	upon := map[int]int{y[0]: x[0], y[1]: x[2], y[2]: x[1]} // the holes go round in opposite directions
	points := len(a.P)
	for v := range b.P {
		if _, ok := upon[v]; !ok {
			upon[v] = points
			points++
		}
	}
	l := slices.Clone(a.T[:len(a.T)-1])
	for _, t := range b.T[:len(b.T)-1] {
		l = append(l, [3]int{upon[t[0]], upon[t[1]], upon[t[2]]})
	}
	return over(points, l...)
}

// without is m without the triangles at these places.
func without(m api.Mesh, places ...int) api.Mesh {
	to := api.Mesh{P: m.P}
	for i, t := range m.T {
		if !slices.Contains(places, i) {
			to.T = append(to.T, t)
		}
	}
	return to
}

// mirrored is m, each triangle the other way round.
func mirrored(m api.Mesh) api.Mesh {
	to := api.Mesh{P: m.P}
	for _, t := range m.T {
		to.T = append(to.T, [3]int{t[0], t[2], t[1]})
	}
	return to
}

// stirred is m, its triangles in any order, and begun anywhere.
func stirred(r *rand.Rand, m api.Mesh) api.Mesh {
	to := api.Mesh{P: m.P, T: slices.Clone(m.T)}
	r.Shuffle(len(to.T), func(i, j int) { to.T[i], to.T[j] = to.T[j], to.T[i] })
	for i, t := range to.T {
		to.T[i] = turned(t, r.Intn(3))
	}
	return to
}

// shuffled is m by other numbers, and stirred.
func shuffled(r *rand.Rand, m api.Mesh) api.Mesh {
	to, _ := renamedByWords(m, r.Perm(len(m.P)))
	return stirred(r, to)
}

// fewer is m without some triangles, if it is a surface then.
func fewer(r *rand.Rand, m api.Mesh) api.Mesh {
	for range r.Intn(8) {
		if less := without(m, r.Intn(len(m.T)+1)); mesh.Check(less) == api.OK {
			m = less
		}
	}
	return m
}

// surfaces are small ones: with a border and without, with handles and without, of one piece and of several, and that of no triangles.
func surfaces() []api.Mesh {
	return []api.Mesh{
		{},
		one(),
		two(),
		pillow(),
		tetra(),
		band(3),
		band(9),
		wheel(3),
		wheel(8),
		ball(3),
		ball(6),
		hoop(6),
		hoop(12),
		torus(7),
		torus(11),
		without(ball(4), 0),
		without(ball(7), 1, 10),
		without(torus(7), 4),
		without(torus(12), 3, 17),
		joined(torus(7), torus(8)),
		joined(joined(torus(7), ball(5)), torus(9)),
		without(joined(torus(8), torus(7)), 5),
		beside(one(), one()),
		beside(pillow(), two(), wheel(4)),
		beside(torus(7), joined(torus(7), torus(7)), hoop(8), band(3)),
		beside(without(torus(9), 0), without(ball(5), 6), torus(8)),
	}
}

// numberings are all of n things.
func numberings(n int) [][]int {
	if n == 0 {
		return [][]int{{}}
	}
	var l [][]int
	for _, num := range numberings(n - 1) {
		for at := range n {
			l = append(l, slices.Insert(slices.Clone(num), at, n-1))
		}
	}
	return l
}

// numbers are those from 0 on.
func numbers(n int) []int {
	l := make([]int, n)
	for i := range l {
		l[i] = i
	}
	return l
}
