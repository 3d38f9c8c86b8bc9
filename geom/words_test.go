package geom

import (
	"math/big"
	"math/rand"

	"lapidary/api"
	"lapidary/wide"
)

// The chapter's words, reckoned with fractions of any length: a point of a segment is told by how far along it is, where
// two lines meet by solving for that, and nothing by the side on which something lies.

const (
	least    = -1 << 31
	greatest = 1<<31 - 1
)

func rat(n int) *big.Rat {
	return new(big.Rat).SetInt64(int64(n))
}

func product(a, b *big.Rat) *big.Rat {
	return new(big.Rat).Mul(a, b)
}

func less(a, b *big.Rat) *big.Rat {
	return new(big.Rat).Sub(a, b)
}

// crossed is (b - a) by (d - c), each taken as a way in the plane.
func crossed(a, b, c, d api.Point) *big.Rat {
	return less(product(rat(b.X-a.X), rat(d.Y-c.Y)), product(rat(b.Y-a.Y), rat(d.X-c.X)))
}

func turnByWords(a, b, c api.Point) int {
	return less(product(less(rat(b.X), rat(a.X)), less(rat(c.Y), rat(a.Y))),
		product(less(rat(b.Y), rat(a.Y)), less(rat(c.X), rat(a.X)))).Sign()
}

// along is how far p is along the way from a to b (0 at a, 1 at b), if it is on the line of both, which are two points.
func along(p, a, b api.Point) (*big.Rat, bool) {
	share := new(big.Rat)
	if a.X != b.X {
		share.SetFrac64(int64(p.X-a.X), int64(b.X-a.X))
	} else {
		share.SetFrac64(int64(p.Y-a.Y), int64(b.Y-a.Y))
	}
	return share, product(share, rat(b.X-a.X)).Cmp(rat(p.X-a.X)) == 0 && product(share, rat(b.Y-a.Y)).Cmp(rat(p.Y-a.Y)) == 0
}

func isShare(r *big.Rat) bool {
	return r.Sign() >= 0 && r.Cmp(rat(1)) <= 0
}

func onByWords(p, a, b api.Point) bool {
	if a == b {
		return p == a
	}
	share, ok := along(p, a, b)
	return ok && isShare(share)
}

func meetByWords(a, b, c, d api.Point) int {
	switch {
	case a == b && onByWords(a, c, d), c == d && onByWords(c, a, b):
		return api.Touch
	case a == b, c == d:
		return api.Apart
	}
	by := crossed(a, b, c, d)
	if by.Sign() == 0 {
		return meetInLine(a, b, c, d)
	}
	// a + s(b - a) is c + t(d - c).
	s := new(big.Rat).Quo(crossed(a, c, c, d), by)
	t := new(big.Rat).Quo(crossed(a, c, a, b), by)
	switch {
	case !isShare(s) || !isShare(t):
		return api.Apart
	case s.Sign() == 0 || t.Sign() == 0 || s.Cmp(rat(1)) == 0 || t.Cmp(rat(1)) == 0:
		return api.Touch
	}
	return api.Cross
}

// meetInLine is of segments, none of them one point, that go one way, or one the other way round.
func meetInLine(a, b, c, d api.Point) int {
	from, ok := along(c, a, b)
	to, _ := along(d, a, b)
	if !ok {
		return api.Apart
	}
	if from.Cmp(to) > 0 {
		from, to = to, from
	}
	if from.Sign() < 0 {
		from = rat(0)
	}
	if to.Cmp(rat(1)) > 0 {
		to = rat(1)
	}
	return []int{api.Apart, api.Touch, api.Overlap}[to.Cmp(from)+1]
}

func areaByWords(l []api.Point) wide.Num {
	sum := new(big.Int)
	for i, p := range l {
		next := l[0]
		if i+1 < len(l) {
			next = l[i+1]
		}
		sum.Add(sum, new(big.Int).Mul(big.NewInt(int64(p.X)), big.NewInt(int64(next.Y))))
		sum.Sub(sum, new(big.Int).Mul(big.NewInt(int64(p.Y)), big.NewInt(int64(next.X))))
	}
	hi, lo := new(big.Int).DivMod(sum, new(big.Int).Lsh(big.NewInt(1), 64), new(big.Int))
	return wide.Num{Hi: int(hi.Int64()), Lo: lo.Uint64()}
}

func inByWords(p api.Point, l []api.Point) int {
	through := 0
	for i, a := range l {
		b := l[0]
		if i+1 < len(l) {
			b = l[i+1]
		}
		if onByWords(p, a, b) {
			return 0
		}
		if (a.Y > p.Y) != (b.Y > p.Y) {
			// X at p's height; p itself is not there.
			share := new(big.Rat).SetFrac64(int64(p.Y-a.Y), int64(b.Y-a.Y))
			x := new(big.Rat).Add(rat(a.X), product(share, rat(b.X-a.X)))
			if x.Cmp(rat(p.X)) > 0 {
				through++
			}
		}
	}
	if through%2 == 1 {
		return 1
	}
	return -1
}

// edges are coordinates at which something may change, and those next to them.
func edges() []int {
	return []int{least, least + 1, -1, 0, 1, greatest - 1, greatest}
}

func edgePoints() []api.Point {
	var l []api.Point
	for _, x := range edges() {
		for _, y := range edges() {
			l = append(l, api.Point{X: x, Y: y})
		}
	}
	return l
}

// small are the points of a grid of n times n; of four of them all ways to lie come.
func small(n int) []api.Point {
	var l []api.Point
	for x := range n {
		for y := range n {
			l = append(l, api.Point{X: x, Y: y})
		}
	}
	return l
}

// drawnCoord is of any length, or at an end, so that near points and far ones come.
func drawnCoord(r *rand.Rand) int {
	if r.Intn(4) == 0 {
		return edges()[r.Intn(len(edges()))]
	}
	return int(int32(r.Uint32())) >> r.Intn(32)
}

func drawnPoint(r *rand.Rand) api.Point {
	return api.Point{X: drawnCoord(r), Y: drawnCoord(r)}
}

// drawnNear is one of a few points, so that sides of rings of these have much in common.
func drawnNear(r *rand.Rand, n int) api.Point {
	return api.Point{X: r.Intn(n), Y: r.Intn(n)}
}

func drawnRing(r *rand.Rand, n int, draw func() api.Point) []api.Point {
	l := make([]api.Point, n)
	for i := range l {
		l[i] = draw()
	}
	return l
}
