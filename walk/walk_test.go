package walk_test

import (
	"math"
	"math/rand"
	"slices"
	"testing"

	"lapidary/api"
	"lapidary/mesh"
	"lapidary/walk"
)

const (
	least    = -1 << 31
	greatest = 1<<31 - 1
)

// steps reads S, B, F for api.Seed, api.Border, api.Fresh; and a digit for api.Known, with that number.
func steps(text string) []api.Step {
	var l []api.Step
	for _, c := range text {
		switch c {
		case 'S':
			l = append(l, api.Step{Kind: api.Seed})
		case 'B':
			l = append(l, api.Step{Kind: api.Border})
		case 'F':
			l = append(l, api.Step{Kind: api.Fresh})
		default:
			l = append(l, api.Step{Kind: api.Known, V: int(c - '0')})
		}
	}
	return l
}

// hold has all calls tell of m what is wanted.
func hold(t *testing.T, name string, m api.Mesh, want told) {
	t.Helper()
	if l, e := walk.Steps(m); e != api.OK || !slices.Equal(l, want.steps) {
		t.Errorf("%s: %v: Steps %v, %d; not %v", name, m.T, l, e, want.steps)
	}
	if v, o, e := walk.Order(m); e != api.OK || !slices.Equal(v, want.verts) || !slices.Equal(o, want.tris) {
		t.Errorf("%s: %v: Order %v, %v, %d; not %v, %v", name, m.T, v, o, e, want.verts, want.tris)
	}
	c, e := walk.Canon(m)
	if e != api.OK || !slices.Equal(c.P, want.canon.P) || !slices.Equal(c.T, want.canon.T) {
		t.Errorf("%s: %v: Canon %v, %d; not %v", name, m, c, e, want.canon)
	}
	own := slices.Equal(want.canon.P, m.P) && slices.Equal(want.canon.T, m.T)
	if is := walk.Is(m); is != own {
		t.Errorf("%s: %v: Is %v", name, m, is)
	}
}

// refuse has all calls refuse m, and tell nothing beside the error.
func refuse(t *testing.T, name string, m api.Mesh, want api.Errno) {
	t.Helper()
	if l, e := walk.Steps(m); e != want || len(l) > 0 {
		t.Errorf("%s: Steps %v, %d; not %d", name, l, e, want)
	}
	if v, o, e := walk.Order(m); e != want || len(v)+len(o) > 0 {
		t.Errorf("%s: Order %v, %v, %d; not %d", name, v, o, e, want)
	}
	if c, e := walk.Canon(m); e != want || len(c.P)+len(c.T) > 0 {
		t.Errorf("%s: Canon %v, %d; not %d", name, c, e, want)
	}
	if walk.Is(m) {
		t.Errorf("%s: Is", name)
	}
}

// agree holds all that is told of m against the chapter's words.
func agree(t *testing.T, name string, m api.Mesh) api.Errno {
	t.Helper()
	e := mesh.Check(m)
	if e == api.OK {
		hold(t, name, m, walkByWords(m))
	} else {
		refuse(t, name, m, e)
	}
	return e
}

// byHand is a mesh, and what was worked out of its walk on paper.
type byHand struct {
	name  string
	m     api.Mesh
	steps string
	verts []int
	tris  []int
	canon [][3]int
}

func allByHand() []byHand {
	return slices.Concat(smallByHand(), gatesByHand(), knownByHand(), piecesByHand(), handleByHand())
}

func smallByHand() []byHand {
	return []byHand{
		{"nothing", api.Mesh{}, "", nil, nil, nil},
		{"one", over(3, [3]int{0, 1, 2}), "SBBB", []int{0, 1, 2}, []int{0}, [][3]int{{0, 1, 2}}},
		{"one, begun at 1", over(3, [3]int{1, 2, 0}), "SBBB", []int{1, 2, 0}, []int{0}, [][3]int{{0, 1, 2}}},
		{"one, begun at 2", over(3, [3]int{2, 0, 1}), "SBBB", []int{2, 0, 1}, []int{0}, [][3]int{{0, 1, 2}}},
		{"one, the other way", over(3, [3]int{2, 1, 0}), "SBBB", []int{2, 1, 0}, []int{0}, [][3]int{{0, 1, 2}}},
		{"two", over(4, [3]int{0, 1, 2}, [3]int{2, 1, 3}),
			"SBFBBB", []int{0, 1, 2, 3}, []int{0, 1}, [][3]int{{0, 1, 2}, {2, 1, 3}}},
		{"two, the second begun elsewhere", over(4, [3]int{0, 1, 2}, [3]int{1, 3, 2}),
			"SBFBBB", []int{0, 1, 2, 3}, []int{0, 1}, [][3]int{{0, 1, 2}, {2, 1, 3}}},
		{"two, the first begun at 1", over(4, [3]int{1, 2, 0}, [3]int{2, 1, 3}),
			"SBBFBB", []int{1, 2, 0, 3}, []int{0, 1}, [][3]int{{0, 1, 2}, {1, 0, 3}}},
		{"two, the first begun at 2", over(4, [3]int{2, 0, 1}, [3]int{2, 1, 3}),
			"SFBBBB", []int{2, 0, 1, 3}, []int{0, 1}, [][3]int{{0, 1, 2}, {0, 2, 3}}},
		{"two, the other one first", over(4, [3]int{2, 1, 3}, [3]int{0, 1, 2}),
			"SBBFBB", []int{2, 1, 3, 0}, []int{0, 1}, [][3]int{{0, 1, 2}, {1, 0, 3}}},
	}
}

// gatesByHand have something behind each gate of a Seed, and behind both of another triangle: it is told which is taken first.
func gatesByHand() []byHand {
	return []byHand{
		{"three gates", over(6, [3]int{0, 1, 2}, [3]int{1, 0, 3}, [3]int{2, 1, 4}, [3]int{0, 2, 5}),
			"SFBBFBBFBB", []int{0, 1, 2, 5, 4, 3}, []int{0, 3, 2, 1}, [][3]int{{0, 1, 2}, {0, 2, 3}, {2, 1, 4}, {1, 0, 5}}},
		{"two gates", over(6, [3]int{0, 1, 2}, [3]int{0, 2, 3}, [3]int{3, 2, 4}, [3]int{0, 3, 5}),
			"SFFBBFBBBB", []int{0, 1, 2, 3, 5, 4}, []int{0, 1, 3, 2}, [][3]int{{0, 1, 2}, {0, 2, 3}, {0, 3, 4}, {3, 2, 5}}},
	}
}

// knownByHand have gates behind which there is a triangle with a known vertex, or one that was met already.
func knownByHand() []byHand {
	w := [][3]int{{0, 1, 2}, {0, 2, 3}, {0, 3, 1}}
	return []byHand{
		{"pillow", over(3, [3]int{0, 1, 2}, [3]int{0, 2, 1}),
			"S1", []int{0, 1, 2}, []int{0, 1}, [][3]int{{0, 1, 2}, {0, 2, 1}}},
		{"wheel", over(4, w...),
			"SF1BBB", []int{0, 1, 2, 3}, []int{0, 1, 2}, [][3]int{{0, 1, 2}, {0, 2, 3}, {0, 3, 1}}},
		{"wheel, begun at 1", over(4, [3]int{1, 2, 0}, w[1], w[2]),
			"SFB1BB", []int{1, 2, 0, 3}, []int{0, 2, 1}, [][3]int{{0, 1, 2}, {0, 2, 3}, {3, 2, 1}}},
		{"wheel, begun at 2: 0 is known", over(4, [3]int{2, 0, 1}, w[1], w[2]),
			"SBFB0B", []int{2, 0, 1, 3}, []int{0, 2, 1}, [][3]int{{0, 1, 2}, {2, 1, 3}, {3, 1, 0}}},
		{"tetra", over(4, [3]int{0, 1, 2}, [3]int{0, 2, 3}, [3]int{0, 3, 1}, [3]int{1, 3, 2}),
			"SF12", []int{0, 1, 2, 3}, []int{0, 1, 2, 3}, [][3]int{{0, 1, 2}, {0, 2, 3}, {0, 3, 1}, {1, 3, 2}}},
		{"tetra by other numbers", over(4, [3]int{3, 1, 0}, [3]int{1, 2, 0}, [3]int{3, 0, 2}, [3]int{2, 1, 3}),
			"SF12", []int{3, 1, 0, 2}, []int{0, 2, 3, 1}, [][3]int{{0, 1, 2}, {0, 2, 3}, {0, 3, 1}, {1, 3, 2}}},
	}
}

func piecesByHand() []byHand {
	return []byHand{
		{"one beside one", over(6, [3]int{3, 4, 5}, [3]int{0, 1, 2}),
			"SBBBSBBB", []int{3, 4, 5, 0, 1, 2}, []int{0, 1}, [][3]int{{0, 1, 2}, {3, 4, 5}}},
		{"one ahead of two", over(7, [3]int{4, 5, 6}, [3]int{0, 1, 2}, [3]int{2, 1, 3}),
			"SBBBSBFBBB", []int{4, 5, 6, 0, 1, 2, 3}, []int{0, 1, 2}, [][3]int{{0, 1, 2}, {3, 4, 5}, {5, 4, 6}}},
		{"one between two", over(7, [3]int{0, 1, 2}, [3]int{4, 5, 6}, [3]int{2, 1, 3}),
			"SBFBBBSBBB", []int{0, 1, 2, 3, 4, 5, 6}, []int{0, 2, 1}, [][3]int{{0, 1, 2}, {2, 1, 3}, {4, 5, 6}}},
		{"one behind two", over(7, [3]int{2, 1, 3}, [3]int{0, 1, 2}, [3]int{6, 4, 5}),
			"SBBFBBSBBB", []int{2, 1, 3, 0, 6, 4, 5}, []int{0, 1, 2}, [][3]int{{0, 1, 2}, {1, 0, 3}, {4, 5, 6}}},
		{"two pillows", over(6, [3]int{0, 1, 2}, [3]int{3, 4, 5}, [3]int{5, 4, 3}, [3]int{2, 1, 0}),
			"S1S4", []int{0, 1, 2, 3, 4, 5}, []int{0, 3, 1, 2}, [][3]int{{0, 1, 2}, {0, 2, 1}, {3, 4, 5}, {3, 5, 4}}},
	}
}

func handleByHand() []byHand {
	return []byHand{{"a handle",
		over(7, [3]int{0, 1, 3}, [3]int{0, 3, 2}, [3]int{1, 2, 4}, [3]int{1, 4, 3}, [3]int{2, 3, 5}, [3]int{2, 5, 4}, [3]int{3, 4, 6},
			[3]int{3, 6, 5}, [3]int{4, 5, 0}, [3]int{4, 0, 6}, [3]int{5, 6, 1}, [3]int{5, 1, 0}, [3]int{6, 0, 2}, [3]int{6, 2, 1}),
		"SFFFF143524635",
		[]int{0, 1, 3, 2, 6, 4, 5},
		[]int{0, 1, 12, 9, 8, 11, 10, 13, 2, 3, 6, 7, 4, 5},
		[][3]int{{0, 1, 2}, {0, 2, 3}, {0, 3, 4}, {0, 4, 5}, {0, 5, 6}, {0, 6, 1}, {1, 6, 4},
			{1, 4, 3}, {1, 3, 5}, {1, 5, 2}, {2, 5, 4}, {2, 4, 6}, {2, 6, 3}, {3, 6, 5}},
	}}
}

func TestByHand(t *testing.T) {
	for _, x := range allByHand() {
		want := told{steps(x.steps), x.verts, x.tris, api.Mesh{T: x.canon}}
		for _, v := range x.verts {
			want.canon.P = append(want.canon.P, x.m.P[v])
		}
		hold(t, x.name, x.m, want)
	}
}

// TestNone has the surface of no triangles: whichever of its lists are nil.
func TestNone(t *testing.T) {
	for _, p := range [][]api.Point{nil, {}, one().P[:0]} {
		for _, l := range [][][3]int{nil, {}, one().T[:0]} {
			hold(t, "none", api.Mesh{P: p, T: l}, told{})
		}
		refuse(t, "no points", api.Mesh{P: p, T: one().T}, api.ErrArg)
	}
	for _, l := range [][][3]int{nil, {}} {
		refuse(t, "no triangles", api.Mesh{P: one().P, T: l}, api.ErrVertex)
	}
}

// row is a mesh, and what mesh.Check tells of it.
type row struct {
	name string
	m    api.Mesh
	want api.Errno
}

// wrong has some rows for each thing that is no surface.
func wrong() []row {
	return slices.Concat(wrongLong(), wrongArg(), wrongEdge(), wrongVertex(), wrongTwice())
}

func wrongLong() []row {
	longer := torus(api.MaxVerts).T
	longer = append(longer, [3]int{0, 1, 2})
	return []row{
		{"a point more", band(api.MaxVerts - 1), api.ErrLong},
		{"a triangle more", over(api.MaxVerts, longer...), api.ErrLong},
		{"both", torus(api.MaxVerts + 1), api.ErrLong},
		{"points alone", api.Mesh{P: make([]api.Point, api.MaxVerts+1)}, api.ErrLong},
		{"triangles alone", api.Mesh{T: make([][3]int, api.MaxTris+1)}, api.ErrLong},
	}
}

func wrongArg() []row {
	var l []row
	for _, n := range []int{least - 1, greatest + 1, math.MinInt, math.MaxInt, 1 << 32} {
		x, y, z := two(), two(), two()
		x.P[0].X, y.P[1].Y, z.P[3].Z = n, n, n
		l = append(l, row{"X", x, api.ErrArg}, row{"Y", y, api.ErrArg}, row{"Z", z, api.ErrArg})
	}
	for i := range 2 {
		for k := range 3 {
			for _, v := range []int{-1, 4, 1 << 32, -1 << 32, math.MinInt, math.MaxInt} {
				m := two()
				m.T[i][k] = v
				l = append(l, row{"a point that is none", m, api.ErrArg})
			}
			m := two()
			m.T[i][k] = m.T[i][(k+1)%3]
			l = append(l, row{"a point twice", m, api.ErrArg})
		}
	}
	return append(l, row{"a point three times", over(1, [3]int{}), api.ErrArg})
}

func wrongEdge() []row {
	return []row{
		{"an edge twice", over(4, [3]int{0, 1, 2}, [3]int{0, 1, 3}), api.ErrEdge},
		{"an edge twice, begun elsewhere", over(4, [3]int{0, 1, 2}, [3]int{2, 3, 1}, [3]int{3, 2, 1}), api.ErrEdge},
		{"a triangle twice", over(3, [3]int{0, 1, 2}, [3]int{0, 1, 2}), api.ErrEdge},
		{"a triangle twice, begun elsewhere", over(3, [3]int{0, 1, 2}, [3]int{1, 2, 0}), api.ErrEdge},
		{"an edge of three", over(5, [3]int{0, 1, 2}, [3]int{1, 0, 3}, [3]int{0, 1, 4}), api.ErrEdge},
		{"a triangle of a ball turned round", over(4, [3]int{2, 1, 0}, [3]int{0, 2, 3}, [3]int{0, 3, 1}, [3]int{1, 3, 2}), api.ErrEdge},
		{"a band that has one side", over(5, [3]int{0, 1, 2}, [3]int{1, 3, 2}, [3]int{2, 3, 4}, [3]int{3, 0, 4}, [3]int{4, 0, 1}), api.ErrEdge},
	}
}

func wrongVertex() []row {
	return []row{
		{"a point alone", over(1), api.ErrVertex},
		{"a point that nothing names", over(5, two().T...), api.ErrVertex},
		{"the first point", over(4, [3]int{1, 2, 3}), api.ErrVertex},
		{"two fans", over(5, [3]int{0, 1, 2}, [3]int{0, 3, 4}), api.ErrVertex},
		{"two closed fans", over(7, [3]int{0, 1, 2}, [3]int{0, 2, 3}, [3]int{0, 3, 1}, [3]int{0, 4, 5}, [3]int{0, 5, 6}, [3]int{0, 6, 4}), api.ErrVertex},
		{"two fans of one piece", over(5, [3]int{0, 1, 2}, [3]int{2, 1, 3}, [3]int{2, 3, 4}, [3]int{4, 3, 0}), api.ErrVertex},
	}
}

// wrongTwice has more than one thing wrong: what comes first in mesh.Check is told.
func wrongTwice() []row {
	far := func(m api.Mesh) api.Mesh {
		m.P[0].Y = greatest + 1
		return m
	}
	return []row{
		{"more points, one far", far(band(api.MaxVerts - 1)), api.ErrLong},
		{"more points, an edge twice", over(api.MaxVerts+1, [3]int{0, 1, 2}, [3]int{0, 1, 3}), api.ErrLong},
		{"more points, none named", over(api.MaxVerts + 1), api.ErrLong},
		{"a point far, an edge twice", far(over(4, [3]int{0, 1, 2}, [3]int{0, 1, 3})), api.ErrArg},
		{"a point far, two fans", far(over(5, [3]int{0, 1, 2}, [3]int{0, 3, 4})), api.ErrArg},
		{"an edge twice, a triangle of none", over(4, [3]int{0, 1, 2}, [3]int{0, 1, 3}, [3]int{1, 2, 4}), api.ErrArg},
		{"an edge twice, a point that nothing names", over(5, [3]int{0, 1, 2}, [3]int{0, 1, 3}), api.ErrEdge},
	}
}

func TestWrong(t *testing.T) {
	for _, x := range wrong() {
		refuse(t, x.name, x.m, x.want)
	}
}

// TestCoords has the least and the greatest coordinates, which may be: the canon has them as they were.
func TestCoords(t *testing.T) {
	m := api.Mesh{P: []api.Point{{X: least, Y: greatest}, {Y: least, Z: greatest}, {X: greatest, Z: least}}, T: [][3]int{{2, 0, 1}}}
	hold(t, "coordinates", m, told{steps("SBBB"), []int{2, 0, 1}, []int{0}, api.Mesh{P: []api.Point{m.P[2], m.P[0], m.P[1]}, T: [][3]int{{0, 1, 2}}}})
}

// TestSurfaces has small surfaces of all kinds as they are, and drawn ones.
func TestSurfaces(t *testing.T) {
	r := rand.New(rand.NewSource(111))
	all := surfaces()
	for _, m := range all {
		if e := agree(t, "a surface", m); e != api.OK {
			t.Errorf("%v: %d", m.T, e)
		}
	}
	for range 1500 {
		if e := agree(t, "drawn", drawn(r, all)); e != api.OK {
			t.Error(e)
		}
	}
}

// around are all triangles of so many points, each once.
func around(points int) [][3]int {
	var l [][3]int
	for a := range points {
		for b := a + 1; b < points; b++ {
			for c := a + 1; c < points; c++ {
				if b != c {
					l = append(l, turned([3]int{a, b, c}, a+b+c))
				}
			}
		}
	}
	return l
}

// TestAllSmall has all rows of up to four triangles over up to four points; in each place each is begun in one way.
func TestAllSmall(t *testing.T) {
	count := map[api.Errno]int{}
	for points := range 5 {
		all := around(points)
		var l [][3]int
		var more func()
		more = func() {
			count[agree(t, "small", over(points, l...))]++
			if len(l) == 4 {
				return
			}
			for _, tri := range all {
				l = append(l, turned(tri, len(l)))
				more()
				l = l[:len(l)-1]
			}
		}
		more()
	}
	if count[api.OK] < 100 || count[api.ErrEdge] < 100 || count[api.ErrVertex] < 10 {
		t.Error(count)
	}
}

// TestAnyTriangles has triangles of any points at all, or nearly so.
func TestAnyTriangles(t *testing.T) {
	r := rand.New(rand.NewSource(112))
	word := func() int { return int(r.Uint64()) >> r.Intn(64) }
	count := map[api.Errno]int{}
	for range 6000 {
		points := r.Intn(6)
		m := over(points)
		for range r.Intn(5) {
			tri := [3]int{r.Intn(points + 1), r.Intn(points + 1), r.Intn(points + 1)}
			if r.Intn(10) == 0 {
				tri[r.Intn(3)] = word()
			}
			m.T = append(m.T, tri)
		}
		if points > 0 && r.Intn(20) == 0 {
			m.P[r.Intn(points)].Z = word()
		}
		count[agree(t, "any", m)]++
	}
	if len(count) < 4 {
		t.Error(count)
	}
}

// TestMost has as many points and triangles as there may be: of one piece, and of as many as may be.
func TestMost(t *testing.T) {
	r := rand.New(rand.NewSource(113))
	many := slices.Repeat([]api.Mesh{one()}, api.MaxVerts/3)
	for _, x := range []struct {
		name string
		m    api.Mesh
	}{
		{"closed, with a handle", torus(api.MaxVerts)},
		{"a band", band(api.MaxVerts - 2)},
		{"a wheel", wheel(api.MaxVerts - 1)},
		{"a ball", ball(api.MaxVerts - 2)},
		{"many pieces", beside(many...)},
	} {
		for _, m := range []api.Mesh{x.m, shuffled(r, x.m)} {
			if agree(t, x.name, m) != api.OK {
				t.Error(x.name)
			}
		}
	}
}

// TestCanonOfCanon has the canon be its own, with the same steps.
func TestCanonOfCanon(t *testing.T) {
	r := rand.New(rand.NewSource(114))
	for _, given := range surfaces() {
		for range 5 {
			m := shuffled(r, given)
			c, e1 := walk.Canon(m)
			again, e2 := walk.Canon(c)
			if e1 != api.OK || e2 != api.OK || !mesh.Same(c, again) || !walk.Is(c) {
				t.Errorf("%v: %v, %d, and again %v, %d", m, c, e1, again, e2)
			}
			l, _ := walk.Steps(m)
			if k, e := walk.Steps(c); e != api.OK || !slices.Equal(l, k) {
				t.Errorf("%v: %v; of the canon %v, %d", m, l, k, e)
			}
			v, o, e := walk.Order(c)
			if e != api.OK || !slices.Equal(v, numbers(len(m.P))) || !slices.Equal(o, numbers(len(m.T))) {
				t.Errorf("%v: of the canon %v, %v, %d", m, v, o, e)
			}
		}
	}
}

// numbers are those from 0 on.
func numbers(n int) []int {
	l := make([]int, n)
	for i := range l {
		l[i] = i
	}
	return l
}

// TestFirstTriangle has one canon, of a surface of one piece, by whatever numbers and with whatever stands behind the first triangle.
func TestFirstTriangle(t *testing.T) {
	r := rand.New(rand.NewSource(115))
	for _, given := range ofOnePiece() {
		m := shuffled(r, given)
		c, _ := walk.Canon(m)
		l, _ := walk.Steps(m)
		for range 10 {
			other := behindFirst(r, renamed(m, r.Perm(len(m.P))))
			if d, e := walk.Canon(other); e != api.OK || !mesh.Same(c, d) {
				t.Errorf("%v: %v; of %v %v, %d", m, c, other, d, e)
			}
			if k, e := walk.Steps(other); e != api.OK || !slices.Equal(l, k) {
				t.Errorf("%v: %v; of %v %v, %d", m, l, other, k, e)
			}
		}
	}
}

// TestNumbersAlone has one canon, of a surface of whatever pieces, by whatever numbers.
func TestNumbersAlone(t *testing.T) {
	r := rand.New(rand.NewSource(116))
	for _, given := range surfaces() {
		m := shuffled(r, given)
		c, _ := walk.Canon(m)
		for range 10 {
			other := renamed(m, r.Perm(len(m.P)))
			if d, e := walk.Canon(other); e != api.OK || !mesh.Same(c, d) {
				t.Errorf("%v: %v; of %v %v, %d", m, c, other, d, e)
			}
		}
	}
}

// TestIs has canons, and what differs from one in a thing.
func TestIs(t *testing.T) {
	r := rand.New(rand.NewSource(117))
	for _, given := range surfaces() {
		c, _ := walk.Canon(shuffled(r, given))
		if !walk.Is(c) {
			t.Errorf("not its own: %v", c)
		}
		others := slices.Concat(otherNumbers(c), otherOrders(c), otherTurns(c))
		for _, m := range others {
			if e := mesh.Check(m); e != api.OK || walk.Is(m) {
				t.Errorf("its own: %v, %d; not that of %v", m, e, c)
			}
		}
		if len(others) < len(c.P)+len(c.T) && len(c.T) > 1 {
			t.Errorf("%d others of %v", len(others), c)
		}
	}
}

// otherNumbers are m with the numbers of two vertices changed.
func otherNumbers(m api.Mesh) []api.Mesh {
	var l []api.Mesh
	for v := range m.P {
		for w := range v {
			num := numbers(len(m.P))
			num[v], num[w] = w, v
			l = append(l, renamed(m, num))
		}
	}
	return l
}

// otherOrders are m with two triangles changed in their places.
func otherOrders(m api.Mesh) []api.Mesh {
	var l []api.Mesh
	for i := range m.T {
		for j := range i {
			other := mesh.Copy(m)
			other.T[i], other.T[j] = m.T[j], m.T[i]
			l = append(l, other)
		}
	}
	return l
}

// otherTurns are m with one triangle begun elsewhere.
func otherTurns(m api.Mesh) []api.Mesh {
	var l []api.Mesh
	for i := range m.T {
		for n := 1; n < 3; n++ {
			other := mesh.Copy(m)
			other.T[i] = turned(m.T[i], n)
			l = append(l, other)
		}
	}
	return l
}

// TestPoints has the points themselves make no other steps: all the same, or others in a canon.
func TestPoints(t *testing.T) {
	r := rand.New(rand.NewSource(118))
	for _, given := range surfaces() {
		m := shuffled(r, given)
		same := api.Mesh{P: make([]api.Point, len(m.P)), T: m.T}
		agree(t, "all points the same", same)
		l, _ := walk.Steps(m)
		if k, e := walk.Steps(same); e != api.OK || !slices.Equal(l, k) {
			t.Errorf("%v: %v, %d; not %v", m.T, k, e, l)
		}
		c, _ := walk.Canon(m)
		if !walk.Is(api.Mesh{P: m.P, T: c.T}) || !walk.Is(api.Mesh{P: same.P, T: c.T}) {
			t.Errorf("not its own by other points: %v", c)
		}
	}
}

// roomy is m with room behind its lists, and something there that is nobody's to change.
func roomy(m api.Mesh) api.Mesh {
	p, t := slices.Clone(m.P), slices.Clone(m.T)
	for i := range 9 {
		p, t = append(p, api.Point{X: 700 + i}), append(t, [3]int{800 + i})
	}
	return api.Mesh{P: p[:len(m.P)], T: t[:len(m.T)]}
}

// isRoomy tells whether m, and the room behind its lists, is what roomy made of given.
func isRoomy(m, given api.Mesh) bool {
	want := roomy(given)
	p, l := len(given.P), len(given.T)
	return slices.Equal(m.P[:p+9], want.P[:p+9]) && slices.Equal(m.T[:l+9], want.T[:l+9])
}

// overwrite changes all of l, and all of the room behind it.
func overwrite[E any](l []E, with E) {
	for i := range l[:cap(l)] {
		l[:cap(l)][i] = with
	}
}

// TestHandedIn has each call leave what is handed in as it was, in the room behind it too.
func TestHandedIn(t *testing.T) {
	meshes := surfaces()
	for _, x := range wrong() {
		meshes = append(meshes, x.m)
	}
	for i, given := range meshes {
		m := roomy(given)
		walk.Steps(m)
		walk.Order(m)
		walk.Canon(m)
		walk.Is(m)
		if !isRoomy(m, given) {
			t.Errorf("%d: changed", i)
		}
	}
}

// spoil changes all that came out, and all of the room behind it.
func spoil(s []api.Step, v, o []int, c api.Mesh) {
	overwrite(s, api.Step{Kind: -7, V: -7})
	overwrite(v, -7)
	overwrite(o, -8)
	overwrite(c.P, api.Point{X: -7})
	overwrite(c.T, [3]int{-7, -7, -7})
}

// TestHandedOut has all that comes out be changed, room and all: what was handed in, and what else came out, stays.
func TestHandedOut(t *testing.T) {
	for i, given := range surfaces() {
		own, _ := walk.Canon(given)
		for _, x := range []api.Mesh{given, own} { // a canon's canon could be the same memory
			m := roomy(x)
			want := walkByWords(x)
			s1, _ := walk.Steps(m)
			v1, o1, _ := walk.Order(m)
			c1, _ := walk.Canon(m)
			s2, _ := walk.Steps(m)
			v2, o2, _ := walk.Order(m)
			c2, _ := walk.Canon(m)
			spoil(s1, v1, o1, c1)
			if !isRoomy(m, x) {
				t.Errorf("%d: what was handed in: %v", i, m)
			}
			if !slices.Equal(s2, want.steps) || !slices.Equal(v2, want.verts) || !slices.Equal(o2, want.tris) || !mesh.Same(c2, want.canon) {
				t.Errorf("%d: %v %v %v %v", i, s2, v2, o2, c2)
			}
			hold(t, "behind what was changed", m, want)
		}
	}
}

// TestListsOfOneAnswer has one of two lists that come out together be changed: the other one stays.
func TestListsOfOneAnswer(t *testing.T) {
	for i, m := range surfaces() {
		want := walkByWords(m)
		v1, o1, _ := walk.Order(m)
		v2, o2, _ := walk.Order(m)
		overwrite(v1, -7)
		overwrite(o2, -7)
		if !slices.Equal(o1, want.tris) || !slices.Equal(v2, want.verts) {
			t.Errorf("%d: %v %v", i, o1, v2)
		}
	}
}

// TestNotKept has what is handed in be changed behind a call: what it answered stays.
func TestNotKept(t *testing.T) {
	for i, given := range surfaces() {
		own, _ := walk.Canon(given)
		for _, x := range []api.Mesh{given, own} {
			m := roomy(x)
			want := walkByWords(x)
			s, _ := walk.Steps(m)
			v, o, _ := walk.Order(m)
			c, _ := walk.Canon(m)
			overwrite(m.P, api.Point{X: -7})
			overwrite(m.T, [3]int{-7})
			if !slices.Equal(s, want.steps) || !slices.Equal(v, want.verts) || !slices.Equal(o, want.tris) || !mesh.Same(c, want.canon) {
				t.Errorf("%d: %v %v %v %v", i, s, v, o, c)
			}
			agree(t, "what it was changed to", m)
		}
	}
}

// TestAgain has each call tell the same again, whatever was asked between.
func TestAgain(t *testing.T) {
	r := rand.New(rand.NewSource(119))
	m := shuffled(r, beside(torus(30), ball(9), hoop(12), band(20)))
	want := walkByWords(m)
	for range 20 {
		hold(t, "again", m, want)
		refuse(t, "between", over(1), api.ErrVertex)
		hold(t, "between", one(), walkByWords(one()))
	}
}

func TestExamples(t *testing.T) {
	m := api.Mesh{P: make([]api.Point, 4), T: [][3]int{{0, 1, 2}, {2, 1, 3}}}
	want := []api.Step{{Kind: api.Seed}, {Kind: api.Border}, {Kind: api.Fresh}, {Kind: api.Border}, {Kind: api.Border}, {Kind: api.Border}}
	if l, e := walk.Steps(m); e != api.OK || !slices.Equal(l, want) {
		t.Error(l, e)
	}
}
