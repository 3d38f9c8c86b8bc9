package geom

import (
	"math"
	"math/rand"
	"slices"
	"testing"

	"lapidary/api"
	"lapidary/wide"
)

func at(x, y int) api.Point {
	return api.Point{X: x, Y: y}
}

// elsewhere is the same ring, begun at its n-th point.
func elsewhere(l []api.Point, n int) []api.Point {
	return slices.Concat(l[n:], l[:n])
}

func backwards(l []api.Point) []api.Point {
	l = slices.Clone(l)
	slices.Reverse(l)
	return l
}

// wrongs are p with one of its numbers out of what Right takes.
func wrongs(p api.Point) []api.Point {
	var l []api.Point
	for _, n := range []int{least - 1, greatest + 1, least - 2, greatest + 2, 1 << 32, -1 << 32, 1<<32 + 1, 1 << 33, 1 << 62, -1 << 62, math.MinInt, math.MinInt + 1, math.MaxInt, math.MaxInt - 1} {
		l = append(l, api.Point{X: n, Y: p.Y}, api.Point{X: p.X, Y: n}, api.Point{X: n, Y: n})
	}
	for _, n := range []int{1, -1, 2, 1 << 31, -1 << 31, 1 << 32, -1 << 32, math.MinInt, math.MaxInt} {
		l = append(l, api.Point{X: p.X, Y: p.Y, Z: n})
	}
	return l
}

func TestRight(t *testing.T) {
	for _, row := range []struct {
		l    []api.Point
		want bool
	}{
		{nil, true},
		{[]api.Point{}, true},
		{[]api.Point{{}}, true},
		{[]api.Point{at(least, 0)}, true},
		{[]api.Point{at(0, least)}, true},
		{[]api.Point{at(greatest, 0)}, true},
		{[]api.Point{at(0, greatest)}, true},
		{[]api.Point{at(api.MaxCoord, -api.MaxCoord-1)}, true},
		{[]api.Point{at(least-1, 0)}, false},
		{[]api.Point{at(0, least-1)}, false},
		{[]api.Point{at(greatest+1, 0)}, false},
		{[]api.Point{at(0, greatest+1)}, false},
		{[]api.Point{at(math.MinInt, 0)}, false},
		{[]api.Point{at(0, math.MinInt)}, false},
		{[]api.Point{at(math.MaxInt, 0)}, false},
		{[]api.Point{at(0, math.MaxInt)}, false},
		{[]api.Point{{Z: 1}}, false},
		{[]api.Point{{Z: -1}}, false},
		{[]api.Point{at(1, 2), at(1, 2)}, true},
		{[]api.Point{at(1, 2), at(least, greatest), {}}, true},
		{[]api.Point{{Z: 1}, {Z: 1}}, false},
	} {
		if Right(row.l...) != row.want {
			t.Errorf("Right of %v: not %t", row.l, row.want)
		}
	}
	if !Right() {
		t.Error("Right of none")
	}
	if !Right(edgePoints()...) {
		t.Error("Right of those at the edges")
	}
}

// TestRightOfMany has the one that is not so first, in the middle, last, and each of all.
func TestRightOfMany(t *testing.T) {
	for n := 1; n < 9; n++ {
		for i := range n {
			l := edgePoints()[:n]
			for _, p := range wrongs(l[i]) {
				l[i] = p
				if Right(l...) {
					t.Errorf("Right of %v", l)
				}
			}
		}
	}
}

// TestWrongPoints has calls that tell something of right points, each with one point that is not so at each place.
func TestWrongPoints(t *testing.T) {
	turn := func(l []api.Point) int { return Turn(l[0], l[1], l[2]) }
	on := func(l []api.Point) int {
		if On(l[0], l[1], l[2]) {
			return 1
		}
		return 0
	}
	meet := func(l []api.Point) int { return Meet(l[0], l[1], l[2], l[3]) }
	area := func(l []api.Point) int {
		if Area(l...) != (wide.Num{}) {
			return 1
		}
		return 0
	}
	in := func(l []api.Point) int { return In(l[0], l[1:]...) }
	for i, row := range []struct {
		tell func(l []api.Point) int
		l    []api.Point
		want int
	}{
		{turn, []api.Point{at(0, 0), at(4, 0), at(0, 4)}, 1},
		{turn, []api.Point{at(0, 0), at(0, 4), at(4, 0)}, -1},
		{on, []api.Point{at(2, 2), at(0, 0), at(4, 4)}, 1},
		{on, []api.Point{at(2, 0), at(0, 0), at(4, 0)}, 1},
		{on, []api.Point{at(0, 2), at(0, 4), at(0, 0)}, 1},
		{on, []api.Point{at(1, 1), at(1, 1), at(1, 1)}, 1},
		{meet, []api.Point{at(0, 0), at(4, 4), at(0, 4), at(4, 0)}, api.Cross},
		{meet, []api.Point{at(0, 0), at(4, 4), at(4, 4), at(9, 0)}, api.Touch},
		{meet, []api.Point{at(0, 0), at(4, 4), at(0, 4), at(2, 2)}, api.Touch},
		{meet, []api.Point{at(1, 1), at(1, 1), at(1, 1), at(1, 1)}, api.Touch},
		{meet, []api.Point{at(0, 0), at(4, 0), at(1, 0), at(9, 0)}, api.Overlap},
		{meet, []api.Point{at(0, 0), at(0, 4), at(0, 4), at(0, 0)}, api.Overlap},
		{area, []api.Point{at(0, 0), at(4, 0), at(0, 4)}, 1},
		{area, []api.Point{at(0, 0), at(0, 4), at(4, 4), at(4, 0)}, 1},
		{in, []api.Point{at(1, 1)}, -1},
		{in, []api.Point{at(1, 1), at(2, 2)}, -1},
		{in, []api.Point{at(1, 1), at(2, 2), at(4, 3)}, -1},
		{in, []api.Point{at(1, 1), at(0, 0), at(4, 0), at(4, 4), at(0, 4)}, 1},
		{in, []api.Point{at(9, 1), at(0, 0), at(4, 0), at(4, 4), at(0, 4)}, -1},
	} {
		if n := row.tell(row.l); n != row.want {
			t.Errorf("row %d: %d, not %d", i, n, row.want)
		}
		for place, right := range row.l {
			l := slices.Clone(row.l)
			for _, p := range wrongs(right) {
				l[place] = p
				if n := row.tell(l); n != 0 {
					t.Errorf("row %d: of %v: %d", i, l, n)
				}
			}
		}
	}
}

// TestAnyPoints has points of any words at all: none panics, and one that is not right makes the answer nought.
func TestAnyPoints(t *testing.T) {
	r := rand.New(rand.NewSource(91))
	draw := func() api.Point {
		p := drawnPoint(r)
		if r.Intn(8) == 0 {
			all := wrongs(p)
			p = all[r.Intn(len(all))]
		}
		return p
	}
	for range 20000 {
		l := drawnRing(r, 4, draw)
		right := Right(l...)
		turned, on := Turn(l[0], l[1], l[2]), On(l[0], l[1], l[2])
		if !Right(l[:3]...) && (turned != 0 || on) {
			t.Fatalf("%v: Turn %d, On %t", l, turned, on)
		}
		met, area, in := Meet(l[0], l[1], l[2], l[3]), Area(l...), In(l[0], l[1:]...)
		if !right && (met != 0 || area != (wide.Num{}) || in != 0) {
			t.Fatalf("%v: Meet %d, Area %v, In %d", l, met, area, in)
		}
	}
}

func TestTurn(t *testing.T) {
	for _, row := range []struct {
		a, b, c api.Point
		want    int
	}{
		{at(0, 0), at(1, 0), at(1, 1), 1},
		{at(0, 0), at(1, 0), at(1, -1), -1},
		{at(0, 0), at(1, 0), at(0, 1), 1},
		{at(0, 0), at(1, 0), at(-5, 1), 1},
		{at(0, 0), at(1, 0), at(-5, -1), -1},
		{at(0, 0), at(0, 1), at(-1, 7), 1},
		{at(0, 0), at(0, 1), at(1, -7), -1},
		{at(0, 0), at(2, 2), at(5, 5), 0},
		{at(0, 0), at(2, 2), at(1, 1), 0},
		{at(0, 0), at(2, 2), at(-3, -3), 0},
		{at(0, 0), at(2, 2), at(5, 6), 1},
		{at(0, 0), at(2, 2), at(6, 5), -1},
		{at(3, 0), at(3, 5), at(3, -9), 0},
		{at(0, 3), at(5, 3), at(-9, 3), 0},
		{at(7, -2), at(4, 3), at(4, 2), 1},
		{at(1, 2), at(1, 2), at(5, 9), 0},
		{at(5, 9), at(1, 2), at(1, 2), 0},
		{at(1, 2), at(5, 9), at(1, 2), 0},
		{at(1, 2), at(1, 2), at(1, 2), 0},
		{at(least, least), at(greatest, least), at(least, greatest), 1},
		{at(least, least), at(least, greatest), at(greatest, least), -1},
		{at(greatest, greatest), at(least, greatest), at(greatest, least), 1},
		{at(least, least), at(greatest, greatest), at(0, 0), 0},
		{at(least, least), at(greatest, greatest-1), at(greatest, greatest), 1},
		{at(least, least), at(greatest-1, greatest), at(greatest, greatest), -1},
		{at(least, least), at(greatest, greatest-1), at(greatest-1, greatest-2), -1},
		{at(least, least), at(greatest-1, greatest-2), at(greatest, greatest-1), 1},
		{at(least, greatest), at(greatest, least), at(0, -1), 0},
		{at(least, greatest), at(greatest, least), at(0, 0), 1},
	} {
		if n := Turn(row.a, row.b, row.c); n != row.want {
			t.Errorf("Turn of %v, %v, %v: %d, not %d", row.a, row.b, row.c, n, row.want)
		}
	}
}

func checkTurn(t *testing.T, a, b, c api.Point) {
	want := turnByWords(a, b, c)
	if n := Turn(a, b, c); n != want {
		t.Fatalf("Turn of %v, %v, %v: %d, not %d", a, b, c, n, want)
	}
	// Begun at another one it is the same way round, from the other side the other one.
	if Turn(b, c, a) != want || Turn(c, a, b) != want || Turn(c, b, a) != -want || Turn(b, a, c) != -want || Turn(a, c, b) != -want {
		t.Fatalf("Turn of %v, %v, %v: %d, but not so told otherwise", a, b, c, want)
	}
}

// TestTurnWords holds every three points at the edges, and of many others, against numbers of any length.
func TestTurnWords(t *testing.T) {
	l := edgePoints()
	for i, a := range l {
		for j, b := range l[:i+1] {
			for _, c := range l[:j+1] {
				checkTurn(t, a, b, c)
			}
		}
	}
	r := rand.New(rand.NewSource(92))
	for range 20000 {
		checkTurn(t, drawnPoint(r), drawnPoint(r), drawnPoint(r))
	}
}

func TestOn(t *testing.T) {
	for _, row := range []struct {
		p, a, b api.Point
		want    bool
	}{
		// On a slanting one.
		{at(0, 0), at(0, 0), at(4, 4), true},
		{at(4, 4), at(0, 0), at(4, 4), true},
		{at(2, 2), at(0, 0), at(4, 4), true},
		{at(5, 5), at(0, 0), at(4, 4), false},
		{at(-1, -1), at(0, 0), at(4, 4), false},
		{at(2, 3), at(0, 0), at(4, 4), false},
		{at(3, 2), at(0, 0), at(4, 4), false},
		{at(4, 0), at(0, 0), at(4, 4), false},
		{at(1, 2), at(0, 4), at(2, 0), true},
		{at(1, 1), at(0, 4), at(2, 0), false},
		{at(3, -2), at(0, 4), at(2, 0), false},
		{at(-1, 6), at(0, 4), at(2, 0), false},
		// On an upright one.
		{at(3, 1), at(3, 1), at(3, 5), true},
		{at(3, 5), at(3, 1), at(3, 5), true},
		{at(3, 4), at(3, 1), at(3, 5), true},
		{at(3, 6), at(3, 1), at(3, 5), false},
		{at(3, 0), at(3, 1), at(3, 5), false},
		{at(2, 3), at(3, 1), at(3, 5), false},
		{at(4, 3), at(3, 1), at(3, 5), false},
		// On a level one.
		{at(1, 3), at(1, 3), at(5, 3), true},
		{at(5, 3), at(1, 3), at(5, 3), true},
		{at(2, 3), at(1, 3), at(5, 3), true},
		{at(6, 3), at(1, 3), at(5, 3), false},
		{at(0, 3), at(1, 3), at(5, 3), false},
		{at(3, 2), at(1, 3), at(5, 3), false},
		{at(3, 4), at(1, 3), at(5, 3), false},
		// On one point.
		{at(1, 1), at(1, 1), at(1, 1), true},
		{at(1, 2), at(1, 1), at(1, 1), false},
		{at(0, 1), at(1, 1), at(1, 1), false},
		{at(2, 2), at(1, 1), at(1, 1), false},
		// At both ends of what is right.
		{at(0, 0), at(least, least), at(greatest, greatest), true},
		{at(greatest, greatest), at(least, least), at(greatest, greatest), true},
		{at(greatest, greatest-1), at(least, least), at(greatest, greatest), false},
		{at(0, -1), at(least, greatest), at(greatest, least), true},
		{at(0, 0), at(least, greatest), at(greatest, least), false},
		{at(greatest-1, greatest-2), at(least, least), at(greatest, greatest-1), false},
		{at(least, 0), at(least, least), at(least, greatest), true},
		{at(0, greatest), at(least, greatest), at(greatest, greatest), true},
	} {
		if On(row.p, row.a, row.b) != row.want || On(row.p, row.b, row.a) != row.want {
			t.Errorf("On of %v, %v, %v: not %t, told from both ends", row.p, row.a, row.b, row.want)
		}
	}
}

func checkOn(t *testing.T, p, a, b api.Point) {
	want := onByWords(p, a, b)
	if On(p, a, b) != want || On(p, b, a) != want {
		t.Fatalf("On of %v, %v, %v: not %t, told from both ends", p, a, b, want)
	}
}

func TestOnWords(t *testing.T) {
	for _, points := range [][]api.Point{small(5), edgePoints()} {
		for i, a := range points {
			for _, b := range points[:i+1] {
				for _, p := range points {
					checkOn(t, p, a, b)
				}
			}
		}
	}
}

// TestOnDrawn has points that are between by how they are made, and those next to them.
func TestOnDrawn(t *testing.T) {
	r := rand.New(rand.NewSource(93))
	for range 5000 {
		a, way, n := drawnNear(r, 1000), drawnNear(r, 1000), 1+r.Intn(1000)
		b := at(a.X+n*way.X, a.Y-n*way.Y)
		far := r.Intn(n + 1)
		p := at(a.X+far*way.X, a.Y-far*way.Y)
		if !On(p, a, b) || !On(p, b, a) {
			t.Fatalf("On of %v, %v, %v", p, a, b)
		}
		for _, p := range []api.Point{at(p.X+1, p.Y), at(p.X-1, p.Y), at(p.X, p.Y+1), at(p.X, p.Y-1), at(b.X+way.X, b.Y-way.Y)} {
			checkOn(t, p, a, b)
		}
		checkOn(t, drawnPoint(r), drawnPoint(r), drawnPoint(r))
	}
}

// checkMeet tells it from either side, and from either end.
func checkMeet(t *testing.T, a, b, c, d api.Point, want int) {
	for _, l := range [8][4]api.Point{{a, b, c, d}, {b, a, c, d}, {a, b, d, c}, {b, a, d, c}, {c, d, a, b}, {d, c, a, b}, {c, d, b, a}, {d, c, b, a}} {
		if n := Meet(l[0], l[1], l[2], l[3]); n != want {
			t.Fatalf("Meet of %v: %d, not %d", l, n, want)
		}
	}
}

func TestMeet(t *testing.T) {
	for _, row := range []struct {
		a, b, c, d api.Point
		want       int
	}{
		// Apart: beside one another, on one line, in line with a part of the other one alone.
		{at(0, 0), at(4, 4), at(0, 1), at(4, 5), api.Apart},
		{at(0, 0), at(4, 4), at(5, 5), at(9, 9), api.Apart},
		{at(0, 0), at(4, 0), at(5, 0), at(9, 0), api.Apart},
		{at(0, 0), at(0, 4), at(0, 5), at(0, 9), api.Apart},
		{at(0, 0), at(4, 0), at(0, 1), at(4, 1), api.Apart},
		{at(0, 0), at(0, 4), at(1, 0), at(1, 4), api.Apart},
		{at(0, 0), at(2, 0), at(3, -1), at(3, 1), api.Apart},
		{at(0, 0), at(4, 4), at(3, 2), at(4, 0), api.Apart},
		{at(0, 0), at(9, 9), at(5, 4), at(9, 0), api.Apart},
		{at(0, 0), at(4, 4), at(8, 0), at(5, 4), api.Apart},
		{at(0, 0), at(4, 4), at(6, 6), at(8, 5), api.Apart},
		{at(0, 0), at(10, 1), at(5, 0), at(9, 0), api.Apart},
		{at(0, 0), at(1, 5), at(3, 1), at(9, 1), api.Apart},
		// Touch: at an end of each, on one line too, and at an end of one within the other one.
		{at(0, 0), at(4, 4), at(4, 4), at(9, 0), api.Touch},
		{at(0, 0), at(4, 4), at(4, 4), at(9, 9), api.Touch},
		{at(0, 0), at(4, 4), at(0, 0), at(4, 5), api.Touch},
		{at(0, 0), at(4, 0), at(4, 0), at(9, 0), api.Touch},
		{at(0, 0), at(0, 4), at(0, 4), at(0, 9), api.Touch},
		{at(0, 0), at(4, 0), at(4, 0), at(4, 9), api.Touch},
		{at(0, 0), at(4, 4), at(2, 2), at(9, 0), api.Touch},
		{at(0, 0), at(4, 0), at(2, 0), at(2, 7), api.Touch},
		{at(0, 0), at(4, 0), at(1, -7), at(1, 0), api.Touch},
		{at(0, 0), at(0, 4), at(0, 3), at(-5, 3), api.Touch},
		{at(0, 0), at(2, 1), at(2, 1), at(3, 2), api.Touch},
		// Cross, on a point of the grid or beside one.
		{at(0, 0), at(4, 4), at(0, 4), at(4, 0), api.Cross},
		{at(0, 0), at(1, 1), at(0, 1), at(1, 0), api.Cross},
		{at(-1, 0), at(1, 0), at(0, -1), at(0, 1), api.Cross},
		{at(0, 0), at(10, 1), at(5, 0), at(5, 1), api.Cross},
		{at(0, 0), at(10, 1), at(9, 0), at(9, 1), api.Cross},
		{at(0, 0), at(3, 9), at(0, 1), at(3, 1), api.Cross},
		// Overlap: in part, one within the other one, the same, the same the other way round.
		{at(0, 0), at(4, 4), at(1, 1), at(9, 9), api.Overlap},
		{at(0, 0), at(4, 4), at(3, 3), at(9, 9), api.Overlap},
		{at(0, 0), at(4, 4), at(1, 1), at(3, 3), api.Overlap},
		{at(0, 0), at(4, 4), at(0, 0), at(3, 3), api.Overlap},
		{at(0, 0), at(4, 4), at(0, 0), at(4, 4), api.Overlap},
		{at(0, 0), at(1, 1), at(1, 1), at(0, 0), api.Overlap},
		{at(0, 0), at(4, 0), at(3, 0), at(9, 0), api.Overlap},
		{at(0, 0), at(9, 0), at(3, 0), at(4, 0), api.Overlap},
		{at(0, 0), at(9, 0), at(0, 0), at(9, 0), api.Overlap},
		{at(0, 0), at(9, 0), at(8, 0), at(9, 0), api.Overlap},
		{at(0, 0), at(0, 5), at(0, 2), at(0, 3), api.Overlap},
		{at(0, 0), at(0, 5), at(0, -1), at(0, 1), api.Overlap},
		{at(0, 0), at(0, 5), at(0, 5), at(0, 0), api.Overlap},
		{at(0, 0), at(0, 5), at(0, 5), at(0, 4), api.Overlap},
		// One of them, or both, of one point.
		{at(1, 1), at(1, 1), at(0, 0), at(4, 4), api.Touch},
		{at(4, 4), at(4, 4), at(0, 0), at(4, 4), api.Touch},
		{at(1, 2), at(1, 2), at(0, 0), at(4, 4), api.Apart},
		{at(5, 5), at(5, 5), at(0, 0), at(4, 4), api.Apart},
		{at(3, 0), at(3, 0), at(0, 0), at(4, 0), api.Touch},
		{at(5, 0), at(5, 0), at(0, 0), at(4, 0), api.Apart},
		{at(0, 3), at(0, 3), at(0, 0), at(0, 4), api.Touch},
		{at(0, 5), at(0, 5), at(0, 0), at(0, 4), api.Apart},
		{at(1, 1), at(1, 1), at(1, 1), at(1, 1), api.Touch},
		{at(1, 1), at(1, 1), at(2, 2), at(2, 2), api.Apart},
		{at(1, 1), at(1, 1), at(1, 2), at(1, 2), api.Apart},
		{at(0, 0), at(0, 0), at(0, 0), at(0, 0), api.Touch},
		// At both ends of what is right.
		{at(least, least), at(greatest, greatest), at(least, greatest), at(greatest, least), api.Cross},
		{at(least, least), at(greatest, least), at(greatest, least), at(greatest, greatest), api.Touch},
		{at(least, least), at(greatest, greatest), at(0, 0), at(least, greatest), api.Touch},
		{at(least, least), at(greatest, greatest), at(0, 1), at(least, greatest), api.Apart},
		{at(least, least), at(greatest, greatest-1), at(least+1, least+1), at(greatest, greatest), api.Apart},
		{at(least, least), at(greatest, greatest-1), at(0, -1), at(0, 0), api.Cross},
		{at(least, least), at(greatest, greatest), at(greatest, greatest), at(0, 0), api.Overlap},
		{at(least, 0), at(greatest, 0), at(0, least), at(0, greatest), api.Cross},
		{at(least, least), at(least, least), at(greatest, greatest), at(greatest, greatest), api.Apart},
	} {
		checkMeet(t, row.a, row.b, row.c, row.d, row.want)
	}
}

// TestMeetWords has all ways that four points of a grid may lie in.
func TestMeetWords(t *testing.T) {
	l := small(4)
	for i, a := range l {
		for _, b := range l[:i+1] {
			for j, c := range l {
				for _, d := range l[:j+1] {
					checkMeet(t, a, b, c, d, meetByWords(a, b, c, d))
				}
			}
		}
	}
}

func TestMeetDrawn(t *testing.T) {
	r := rand.New(rand.NewSource(94))
	ends := [3]int{least, 0, greatest}
	var came [4]int
	for i := range 20000 {
		l := drawnRing(r, 4, func() api.Point {
			if i%2 == 0 {
				return drawnPoint(r)
			}
			return at(ends[r.Intn(3)], ends[r.Intn(3)])
		})
		want := meetByWords(l[0], l[1], l[2], l[3])
		came[want]++
		checkMeet(t, l[0], l[1], l[2], l[3], want)
	}
	if slices.Min(came[:]) < 50 {
		t.Error(came)
	}
}

func TestArea(t *testing.T) {
	whole := []api.Point{at(least, least), at(greatest, least), at(greatest, greatest), at(least, greatest)}
	for _, row := range []struct {
		l    []api.Point
		want wide.Num
	}{
		{nil, wide.Num{}},
		{[]api.Point{}, wide.Num{}},
		{[]api.Point{at(3, 4)}, wide.Num{}},
		{[]api.Point{at(least, greatest)}, wide.Num{}},
		{[]api.Point{at(3, 4), at(-5, 6)}, wide.Num{}},
		{[]api.Point{at(3, 4), at(3, 4)}, wide.Num{}},
		{[]api.Point{at(least, greatest), at(greatest, least)}, wide.Num{}},
		{[]api.Point{at(0, 0), at(1, 0), at(0, 1)}, wide.Of(1)},
		{[]api.Point{at(0, 0), at(0, 1), at(1, 0)}, wide.Of(-1)},
		{[]api.Point{at(7, 5), at(8, 5), at(7, 6)}, wide.Of(1)},
		{[]api.Point{at(-7, -5), at(-3, -5), at(-7, -2)}, wide.Of(12)},
		{[]api.Point{at(0, 0), at(1, 1), at(2, 2)}, wide.Num{}},
		{[]api.Point{at(0, 0), at(4, 0), at(4, 0), at(0, 4)}, wide.Of(16)},
		{[]api.Point{at(1, 1), at(4, 1), at(4, 3), at(1, 3)}, wide.Of(12)},
		{[]api.Point{at(0, 0), at(4, 0), at(4, 4), at(2, 2), at(0, 4)}, wide.Of(24)},
		{[]api.Point{at(0, 0), at(2, 2), at(0, 2), at(2, 0)}, wide.Num{}}, // it crosses itself: one part to the left, one to the right
		{[]api.Point{at(0, 0), at(1, 0), at(0, 1), at(0, 0), at(1, 0), at(0, 1)}, wide.Of(2)},
		{whole, wide.Num{Hi: 1, Lo: 1<<64 - 1<<34 + 2}},
		{backwards(whole), wide.Num{Hi: -2, Lo: 1<<34 - 2}},
		{whole[:3], wide.Num{Lo: 1<<64 - 1<<33 + 1}},
		{[]api.Point{at(greatest, greatest), at(least, least), at(greatest, least)}, wide.Num{Lo: 1<<64 - 1<<33 + 1}},
		{[]api.Point{at(least, least), at(greatest, greatest), at(greatest-1, greatest-1)}, wide.Num{}},
		{[]api.Point{at(least, least), at(greatest, greatest-1), at(greatest-1, greatest-2)}, wide.Of(-1)},
	} {
		checkArea(t, row.l, row.want)
	}
	if Area() != (wide.Num{}) {
		t.Error("Area of none")
	}
}

// checkArea tells the ring begun at each of its points, and backwards.
func checkArea(t *testing.T, l []api.Point, want wide.Num) {
	for i := range max(len(l), 1) {
		ring := elsewhere(l, i)
		if n := Area(ring...); n != want {
			t.Fatalf("Area of %v: %v, not %v", ring, n, want)
		}
		if n := Area(backwards(ring)...); n != wide.Neg(want) {
			t.Fatalf("Area of %v, backwards: %v, not %v", ring, n, wide.Neg(want))
		}
	}
}

func TestAreaWords(t *testing.T) {
	r := rand.New(rand.NewSource(95))
	for n := range 40 {
		for range 20 {
			l := drawnRing(r, n, func() api.Point { return drawnPoint(r) })
			checkArea(t, l, areaByWords(l))
		}
	}
}

// TestAreaMany goes round all there is so often that the sum has no room in one word, nor in a float.
func TestAreaMany(t *testing.T) {
	triangle := []api.Point{at(least, least), at(greatest, least), at(least, greatest)}
	l := slices.Repeat(triangle, 30000)
	once := wide.Num{Lo: 1<<64 - 1<<33 + 1}
	want := wide.Num{}
	for range 30000 {
		want = wide.Add(want, once)
	}
	if n := Area(l...); n != want || n.Hi != 29999 {
		t.Error(n, want)
	}
	if n := Area(backwards(l)...); n != wide.Neg(want) {
		t.Error(n)
	}
}

// checkIn tells the ring begun at each of its points, and backwards.
func checkIn(t *testing.T, p api.Point, l []api.Point, want int) {
	for i := range max(len(l), 1) {
		ring := elsewhere(l, i)
		if n := In(p, ring...); n != want {
			t.Fatalf("In of %v, %v: %d, not %d", p, ring, n, want)
		}
		if n := In(p, backwards(ring)...); n != want {
			t.Fatalf("In of %v, %v, backwards: %d, not %d", p, ring, n, want)
		}
	}
}

// TestInPictures has a picture of each ring: of each point of it ' ' (outside), '.' (on a side) or 'o' (inside), the
// lowest row, that of Y 0, last.
func TestInPictures(t *testing.T) {
	for _, row := range []struct {
		l       []api.Point
		picture []string
	}{
		{nil, []string{
			"    ",
			"    "}},
		{[]api.Point{at(1, 1)}, []string{
			"    ",
			" .  ",
			"    "}},
		{[]api.Point{at(1, 1), at(1, 1)}, []string{
			"    ",
			" .  ",
			"    "}},
		{[]api.Point{at(1, 1), at(3, 3)}, []string{
			"   . ",
			"  .  ",
			" .   ",
			"     "}},
		{[]api.Point{at(1, 1), at(3, 1)}, []string{
			"     ",
			" ... ",
			"     "}},
		{[]api.Point{at(1, 3), at(1, 1)}, []string{
			"   ",
			" . ",
			" . ",
			" . ",
			"   "}},
		{[]api.Point{at(1, 1), at(5, 1), at(1, 5)}, []string{
			"       ",
			" .     ",
			" ..    ",
			" .o.   ",
			" .oo.  ",
			" ..... ",
			"       "}},
		{[]api.Point{at(1, 1), at(4, 1), at(4, 4), at(1, 4)}, []string{
			"      ",
			" .... ",
			" .oo. ",
			" .oo. ",
			" .... ",
			"      "}},
		// A corner to either side, at the height of points inside and outside.
		{[]api.Point{at(3, 0), at(6, 3), at(3, 6), at(0, 3)}, []string{
			"   .    ",
			"  .o.   ",
			" .ooo.  ",
			".ooooo. ",
			" .ooo.  ",
			"  .o.   ",
			"   .    "}},
		// Not convex: with a notch from above, from below, from either side.
		{[]api.Point{at(0, 0), at(4, 0), at(4, 4), at(2, 2), at(0, 4)}, []string{
			"      ",
			".   . ",
			".. .. ",
			".o.o. ",
			".ooo. ",
			"..... "}},
		{[]api.Point{at(0, 0), at(2, 2), at(4, 0), at(4, 4), at(0, 4)}, []string{
			"..... ",
			".ooo. ",
			".o.o. ",
			".. .. ",
			".   . "}},
		{[]api.Point{at(0, 0), at(4, 0), at(2, 2), at(4, 4), at(0, 4)}, []string{
			"..... ",
			".oo.  ",
			".o.   ",
			".oo.  ",
			"..... "}},
		{[]api.Point{at(0, 0), at(4, 0), at(4, 4), at(0, 4), at(2, 2)}, []string{
			"..... ",
			" .oo. ",
			"  .o. ",
			" .oo. ",
			"..... "}},
		// Level sides at many heights, as steps and as teeth.
		{[]api.Point{at(0, 0), at(6, 0), at(6, 2), at(4, 2), at(4, 4), at(2, 4), at(2, 6), at(0, 6)}, []string{
			"...     ",
			".o.     ",
			".o...   ",
			".ooo.   ",
			".ooo... ",
			".ooooo. ",
			"....... "}},
		{[]api.Point{at(0, 0), at(7, 0), at(7, 4), at(5, 4), at(5, 2), at(2, 2), at(2, 4), at(0, 4)}, []string{
			"         ",
			"...  ... ",
			".o.  .o. ",
			".o....o. ",
			".oooooo. ",
			"........ "}},
		{[]api.Point{at(0, 0), at(2, 0), at(2, 2), at(5, 2), at(5, 0), at(7, 0), at(7, 4), at(0, 4)}, []string{
			"........ ",
			".oooooo. ",
			".o....o. ",
			".o.  .o. ",
			"...  ... "}},
		// Teeth whose tips are at one height, from above and from below.
		{[]api.Point{at(0, 4), at(2, 2), at(4, 4), at(6, 2), at(8, 4), at(8, 0), at(0, 0)}, []string{
			".   .   . ",
			".. .o. .. ",
			".o.ooo.o. ",
			".ooooooo. ",
			"......... "}},
		{[]api.Point{at(0, 0), at(2, 2), at(4, 0), at(6, 2), at(8, 0), at(8, 4), at(0, 4)}, []string{
			"......... ",
			".ooooooo. ",
			".o.ooo.o. ",
			".. .o. .. ",
			".   .   . "}},
		// More points than corners: within a side, and a point twice.
		{[]api.Point{at(0, 0), at(2, 0), at(4, 0), at(4, 2), at(4, 2), at(4, 4), at(0, 4), at(0, 1)}, []string{
			"..... ",
			".ooo. ",
			".ooo. ",
			".ooo. ",
			"..... "}},
		// A side that goes out and comes back the same way.
		{[]api.Point{at(0, 0), at(3, 0), at(3, 1), at(6, 1), at(3, 1), at(3, 3), at(0, 3)}, []string{
			"....    ",
			".oo.    ",
			".oo.... ",
			"....    "}},
		// It crosses itself, and goes round twice: what is gone round twice is outside.
		{[]api.Point{at(0, 0), at(4, 4), at(4, 0), at(0, 4)}, []string{
			".   . ",
			".. .. ",
			".o.o. ",
			".. .. ",
			".   . "}},
		{[]api.Point{at(0, 0), at(6, 0), at(6, 6), at(0, 6), at(0, 0), at(3, 0), at(3, 3), at(0, 3)}, []string{
			"....... ",
			".ooooo. ",
			".ooooo. ",
			"....oo. ",
			".  .oo. ",
			".  .oo. ",
			"....... "}},
	} {
		for i, line := range row.picture {
			for x, mark := range line {
				want := map[rune]int{' ': -1, '.': 0, 'o': 1}[mark]
				checkIn(t, at(x, len(row.picture)-1-i), row.l, want)
			}
		}
	}
}

// TestInFar has rings at both ends of what is right, and points next to their sides.
func TestInFar(t *testing.T) {
	whole := []api.Point{at(least, least), at(greatest, least), at(greatest, greatest), at(least, greatest)}
	lower := []api.Point{at(least, least), at(greatest, least), at(greatest, greatest-1)}
	for _, row := range []struct {
		p    api.Point
		l    []api.Point
		want int
	}{
		{at(0, 0), whole, 1},
		{at(least+1, greatest-1), whole, 1},
		{at(greatest-1, least+1), whole, 1},
		{at(least, 0), whole, 0},
		{at(0, least), whole, 0},
		{at(greatest, greatest), whole, 0},
		{at(0, -1), lower, 1},
		{at(0, 0), lower, -1},
		{at(-1, -2), lower, 1},
		{at(-1, -1), lower, -1},
		{at(greatest-1, greatest-2), lower, 1},
		{at(greatest-1, greatest-1), lower, -1},
		{at(greatest, greatest-1), lower, 0},
		{at(greatest, greatest), lower, -1},
		{at(least, greatest), lower, -1},
		{at(least, 0), lower[1:], -1},
		{at(least, least), nil, -1},
		{at(least, least), whole[:1], 0},
		{at(greatest, greatest), whole[:1], -1},
		{at(0, least), whole[:2], 0},
		{at(0, 0), []api.Point{whole[0], whole[2]}, 0},
		{at(0, 1), []api.Point{whole[0], whole[2]}, -1},
	} {
		checkIn(t, row.p, row.l, row.want)
	}
}

func TestInWords(t *testing.T) {
	r := rand.New(rand.NewSource(96))
	came := map[int]int{}
	for i := range 600 {
		n, size := r.Intn(9), 2+r.Intn(4)
		l := drawnRing(r, n, func() api.Point {
			if i%2 == 0 {
				return drawnPoint(r)
			}
			return drawnNear(r, size)
		})
		points := append(small(size), l...)
		for range 10 {
			points = append(points, drawnPoint(r))
		}
		for _, p := range points {
			want := inByWords(p, l)
			came[want]++
			checkIn(t, p, l, want)
		}
	}
	if came[1] < 500 || came[0] < 500 || came[-1] < 500 {
		t.Error(came)
	}
}

// TestInTurned: a ring that is laid another way has its points inside as they were, to whichever side the line goes.
func TestInTurned(t *testing.T) {
	r := rand.New(rand.NewSource(97))
	lay := []func(p api.Point) api.Point{
		func(p api.Point) api.Point { return at(-p.X, p.Y) },
		func(p api.Point) api.Point { return at(p.X, -p.Y) },
		func(p api.Point) api.Point { return at(-p.X, -p.Y) },
		func(p api.Point) api.Point { return at(p.Y, p.X) },
		func(p api.Point) api.Point { return at(-p.Y, p.X) },
		func(p api.Point) api.Point { return at(p.X+least, p.Y+greatest-9) },
		func(p api.Point) api.Point { return at(p.X+3*p.Y, p.Y) },
	}
	for range 2000 {
		size := 2 + r.Intn(6)
		l := drawnRing(r, r.Intn(9), func() api.Point { return drawnNear(r, size) })
		p := drawnNear(r, size)
		want := In(p, l...)
		for i, other := range lay {
			ring := slices.Clone(l)
			for j := range ring {
				ring[j] = other(ring[j])
			}
			if n := In(other(p), ring...); n != want {
				t.Fatalf("In of %v, %v: %d, but laid as by %d: %d", p, l, want, i, n)
			}
		}
	}
}

// TestInMany has a comb of so many teeth that one gone wrong would show.
func TestInMany(t *testing.T) {
	var comb []api.Point
	const teeth = 3000
	for i := range teeth {
		comb = append(comb, at(4*i, 4), at(4*i+2, 0))
	}
	comb = append(comb, at(4*teeth, 4), at(4*teeth, 9), at(0, 9))
	for _, i := range []int{0, 1, 2, teeth / 2, teeth - 1} {
		for _, row := range []struct{ x, y, want int }{
			{4*i + 2, 1, 1}, {4*i + 2, 2, 1}, {4*i + 2, 0, 0}, {4*i + 1, 2, 0}, {4*i + 4, 2, -1}, {4*i + 4, 3, -1}, {4*i + 1, 5, 1}, {4*i + 3, 1, -1}, {4*i + 1, 9, 0}, {4*i + 1, 10, -1},
		} {
			if n := In(at(row.x, row.y), comb...); n != row.want {
				t.Errorf("In of %v: %d, not %d", row, n, row.want)
			}
		}
	}
}

// TestHandedIn: neither the points that are handed in are changed, nor the room behind them.
func TestHandedIn(t *testing.T) {
	r := rand.New(rand.NewSource(98))
	for n := range 12 {
		room := drawnRing(r, n+8, func() api.Point { return drawnNear(r, 4) })
		if n > 8 {
			room[n/2].Z = 1
		}
		before := slices.Clone(room)
		l := room[:n]
		right, area, in := Right(l...), Area(l...), In(at(1, 1), l...)
		if !slices.Equal(room, before) {
			t.Fatalf("%v were %v", room, before)
		}
		if Right(l...) != right || Area(l...) != area || In(at(1, 1), l...) != in {
			t.Fatalf("%v: told another way, told again", l)
		}
		// What was told once is not what is told of other points in the same place.
		copy(l, drawnRing(r, n, func() api.Point { return drawnNear(r, 4) }))
		if Area(l...) != areaByWords(l) || In(at(1, 1), l...) != inByWords(at(1, 1), l) || !Right(l...) {
			t.Fatalf("%v: told as of other points", l)
		}
	}
}

func TestExamples(t *testing.T) {
	if n := Meet(at(0, 0), at(4, 4), at(0, 4), at(4, 0)); n != api.Cross {
		t.Error(n)
	}
	if n := Meet(at(0, 0), at(4, 4), at(4, 4), at(9, 0)); n != api.Touch {
		t.Error(n)
	}
	if n := Meet(at(0, 0), at(4, 4), at(1, 1), at(9, 9)); n != api.Overlap {
		t.Error(n)
	}
	if n := Area(at(0, 0), at(1, 0), at(0, 1)); n != wide.Of(1) {
		t.Error(n)
	}
}
