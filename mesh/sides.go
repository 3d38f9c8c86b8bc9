package mesh

import (
	"slices"

	"lapidary/api"
)

// none is the piece of a triangle that none was come to yet.
const none = -1

// edge goes from a vertex to another one.
type edge [2]int

// back is the opposite edge.
func (e edge) back() edge {
	return edge{e[1], e[0]}
}

// rising is the one of e and its opposite that goes from the lesser vertex.
func (e edge) rising() edge {
	return edge{min(e[0], e[1]), max(e[0], e[1])}
}

// side is the triangle that has an edge: its place, and its vertex that is not of the edge.
type side struct {
	tri int
	off int
}

// sides has all edges of a surface.
type sides map[edge]side

// sidesOf is those of m, or what is wrong with m.
func sidesOf(m api.Mesh) (sides, api.Errno) {
	switch {
	case len(m.P) > api.MaxVerts || len(m.T) > api.MaxTris:
		return nil, api.ErrLong
	case slices.ContainsFunc(m.P, isNoPoint) || !allTriangles(m.T, len(m.P)):
		return nil, api.ErrArg
	}
	s := laid(m.T)
	switch {
	case len(s) < 3*len(m.T): // one was laid upon another
		return nil, api.ErrEdge
	case !s.allFans(m.T, len(m.P)):
		return nil, api.ErrVertex
	}
	return s, api.OK
}

func isNoPoint(p api.Point) bool {
	return isNoCoord(p.X) || isNoCoord(p.Y) || isNoCoord(p.Z)
}

func isNoCoord(n int) bool {
	return n < -api.MaxCoord-1 || n > api.MaxCoord
}

// allTriangles tells whether each names three of so many points.
func allTriangles(l [][3]int, points int) bool {
	for _, t := range l {
		for k, v := range t {
			if v < 0 || v >= points || v == t[behind[1][k]] {
				return false
			}
		}
	}
	return true
}

// laid has each edge of these triangles once, even if two have it.
func laid(l [][3]int) sides {
	s := make(sides, 3*len(l))
	for i, t := range l {
		for k, v := range t {
			s[edge{v, t[behind[1][k]]}] = side{tri: i, off: t[behind[2][k]]}
		}
	}
	return s
}

// ends tells whether the surface does not go on behind e.
func (s sides) ends(e edge) bool {
	_, ok := s[e.back()]
	return !ok
}

// allFans tells whether the triangles at each point are one fan, and some.
func (s sides) allFans(l [][3]int, points int) bool {
	first := make([]edge, points) // of each point an edge from it, at which its fan begins if it is open
	at := make([]int, points)     // how many triangles name it: just as many edges go from it
	for _, t := range l {
		for k, v := range t {
			if e := (edge{v, t[behind[1][k]]}); at[v] == 0 || s.ends(e) {
				first[v] = e
			}
			at[v]++
		}
	}
	for v, n := range at {
		if n == 0 || s.fan(first[v]) < n {
			return false
		}
	}
	return true
}

// fan counts the triangles that one comes to round the vertex from which first goes, away from first.
func (s sides) fan(first edge) int {
	n := 0
	e := first
round:
	for {
		next, ok := s[e]
		switch {
		case !ok, n > 0 && e == first:
			break round
		}
		n++
		e = edge{first[0], next.off}
	}
	return n
}

// spread numbers the piece of the i-th triangle.
func (s sides) spread(l [][3]int, pieces []int, i, number int) {
	pieces[i] = number
	pile := []int{i}
	for len(pile) > 0 {
		t := l[pile[len(pile)-1]]
		pile = pile[:len(pile)-1]
		for k, v := range t {
			next, ok := s[edge{t[behind[1][k]], v}]
			if ok && pieces[next.tri] == none {
				pieces[next.tri] = number
				pile = append(pile, next.tri)
			}
		}
	}
}
