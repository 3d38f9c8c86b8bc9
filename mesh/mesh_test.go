package mesh

import (
	"math"
	"math/rand"
	"slices"
	"testing"

	"lapidary/api"
)

const (
	least    = -1 << 31
	greatest = 1<<31 - 1
)

// row is a mesh, and what Check tells of it.
type row struct {
	name string
	m    api.Mesh
	want api.Errno
}

// numbered is the row under each of several numbers, so that one point comes first, in the middle and last.
func numbered(rows []row) []row {
	var all []row
	for _, x := range rows {
		n := len(x.m.P)
		for by := range n {
			num := make([]int, n)
			for v := range num {
				num[v] = (v + by) % n
			}
			all = append(all, row{x.name, renamed(x.m, num), x.want})
		}
	}
	return all
}

// many are as great as may be, and one greater, and nothing else is wrong with them.
func many() []row {
	two := handle(torus(3, 334), torus(50, 60))
	return []row{
		{"MaxVerts points", strip(api.MaxVerts), api.OK},
		{"one point more", strip(api.MaxVerts + 1), api.ErrLong},
		{"MaxTris triangles, closed", torus(40, 100), api.OK},
		{"MaxTris triangles", api.Mesh{P: two.P, T: two.T[2:]}, api.OK},
		{"one triangle more", api.Mesh{P: two.P, T: two.T[1:]}, api.ErrLong},
		{"two triangles more", two, api.ErrLong},
	}
}

// wrong has a row or more for each thing that Check refuses.
func wrong() []row {
	var l []row
	add := func(name string, want api.Errno, m api.Mesh) { l = append(l, row{name, m, want}) }
	l = append(l, wrongLong()...)
	l = append(l, wrongPoints()...)
	l = append(l, wrongTriangles()...)
	for i := range 3 {
		for j := range 3 {
			t, u := turnedByWords([3]int{0, 1, 2}, i), turnedByWords([3]int{0, 1, 3}, j)
			add("one edge twice", api.ErrEdge, over(4, t, u))
			add("one edge twice", api.ErrEdge, over(4, u, t))
			add("one triangle twice", api.ErrEdge, over(3, t, turnedByWords([3]int{0, 1, 2}, j)))
			add("two edges twice", api.ErrEdge, over(5, t, [3]int{2, 1, 4}, turnedByWords([3]int{1, 2, 3}, j)))
		}
	}
	add("an edge of three", api.ErrEdge, over(5, [3]int{0, 1, 2}, [3]int{1, 0, 3}, [3]int{0, 1, 4}))
	add("an edge of three", api.ErrEdge, over(5, [3]int{1, 0, 3}, [3]int{0, 1, 2}, [3]int{4, 0, 1}))
	add("the last two", api.ErrEdge, api.Mesh{P: octa().P, T: append(octa().T[:7:7], octa().T[6])})
	add("the first and the last", api.ErrEdge, api.Mesh{P: octa().P, T: append(octa().T[:7:7], octa().T[0])})
	l = append(l, numbered(wrongVertices())...)
	return append(l, wrongTwice()...)
}

func wrongLong() []row {
	var l []row
	for _, x := range many() {
		if x.want != api.OK {
			l = append(l, x)
		}
	}
	return append(l,
		row{"points alone", api.Mesh{P: make([]api.Point, api.MaxVerts+1)}, api.ErrLong},
		row{"triangles alone", api.Mesh{T: make([][3]int, api.MaxTris+1)}, api.ErrLong},
		row{"both", api.Mesh{P: make([]api.Point, api.MaxVerts+1), T: make([][3]int, api.MaxTris+1)}, api.ErrLong},
		row{"far more points", api.Mesh{P: make([]api.Point, 1<<17)}, api.ErrLong},
		row{"far more triangles", api.Mesh{P: one().P, T: make([][3]int, 1<<17)}, api.ErrLong},
	)
}

// noCoords are just beyond the coordinates, and far off.
func noCoords() []int {
	return []int{least - 1, greatest + 1, math.MinInt, math.MaxInt, math.MinInt + 1, 1 << 32, -1 << 32, 1<<32 + 1, 1 << 62}
}

func wrongPoints() []row {
	var l []row
	for i := range 4 {
		for _, n := range noCoords() {
			x, y, z := two(), two(), two()
			x.P[i].X, y.P[i].Y, z.P[i].Z = n, n, n
			l = append(l, row{"X", x, api.ErrArg}, row{"Y", y, api.ErrArg}, row{"Z", z, api.ErrArg})
		}
	}
	return append(l, row{"a point alone", api.Mesh{P: []api.Point{{X: 1 << 31}}}, api.ErrArg})
}

func wrongTriangles() []row {
	var l []row
	for i := range 2 {
		for k := range 3 {
			for _, v := range []int{-1, 4, 5, -2, math.MinInt, math.MaxInt, 1 << 32, -1 << 32, 1<<32 + 1} {
				m := two()
				m.T[i][k] = v
				l = append(l, row{"a point that is none", m, api.ErrArg})
			}
			m := two()
			m.T[i][k] = m.T[i][(k+1)%3]
			l = append(l, row{"a point twice", m, api.ErrArg})
			m = two()
			m.T[i][k] = m.T[i][(k+2)%3]
			l = append(l, row{"a point twice", m, api.ErrArg})
		}
		m := two()
		m.T[i] = [3]int{1, 1, 1}
		l = append(l, row{"a point three times", m, api.ErrArg})
	}
	return append(l,
		row{"no points", over(0, [3]int{0, 1, 2}), api.ErrArg},
		row{"no points, and one of them", over(0, [3]int{}), api.ErrArg},
		row{"two points", over(2, [3]int{0, 1, 2}), api.ErrArg},
	)
}

// wrongVertices are under numbers by which what is wrong is at the first point: one that nothing names, or of two fans.
func wrongVertices() []row {
	var l []row
	add := func(name string, m api.Mesh) { l = append(l, row{name, m, api.ErrVertex}) }
	for n := 1; n < 4; n++ {
		add("points alone", over(n))
	}
	for _, m := range []api.Mesh{one(), two(), pillow(), tetra(), disc(2, 1)} {
		add("a point that nothing names", over(len(m.P)+1, moved(m, 1)...))
	}
	open := []api.Mesh{wheel(1, false), wheel(2, false), wheel(4, false)}
	closed := []api.Mesh{wheel(3, true), wheel(5, true), pillow(), tetra(), octa()}
	for _, a := range append(open, closed...) {
		for _, b := range append(open, closed...) {
			add("two fans", joined(a, 0, b, 0))
			add("three fans", joined(joined(a, 0, b, 0), 0, one(), 0))
		}
	}
	add("two corners of a sheet", instead(disc(3, 3), 15, 0))
	add("a sheet's corner in its middle", renamed(instead(disc(4, 4), 4, 12), swap(24, 0, 11)))
	add("two points of a torus", instead(torus(6, 6), 21, 0))
	return l
}

// swap is the numbers below n, a and b each in the other's place.
func swap(n, a, b int) []int {
	num := make([]int, n)
	for v := range num {
		num[v] = v
	}
	num[a], num[b] = b, a
	return num
}

// wrongTwice has more than one thing wrong: what the chapter names first is told.
func wrongTwice() []row {
	far := func(m api.Mesh) api.Mesh {
		m.P[len(m.P)-1].Z = greatest + 1
		return m
	}
	no, twice := [3]int{0, 1, 9999}, [3]int{2, 2, 1}
	edges := func(more ...[3]int) api.Mesh {
		return over(5, append([][3]int{{0, 1, 2}, {0, 1, 3}, {2, 1, 4}}, more...)...)
	}
	fans := func(more ...[3]int) api.Mesh {
		return over(5, append([][3]int{{0, 1, 2}, {0, 3, 4}}, more...)...)
	}
	longer := slices.Concat(torus(40, 100).T, [][3]int{{0, 1, 2}})
	return []row{
		{"points more, one far", far(strip(api.MaxVerts + 1)), api.ErrLong},
		{"points more, a triangle of none", over(api.MaxVerts+1, no), api.ErrLong},
		{"points more, an edge twice", over(api.MaxVerts+1, [3]int{0, 1, 2}, [3]int{0, 1, 3}), api.ErrLong},
		{"points more, one that nothing names", over(api.MaxVerts+1, strip(api.MaxVerts).T...), api.ErrLong},
		{"triangles more, a point far", far(over(4000, longer...)), api.ErrLong},
		{"triangles more, one of none", over(4000, append(torus(40, 100).T, no)...), api.ErrLong},
		{"triangles more, an edge twice", over(4000, longer...), api.ErrLong},
		{"a point far, an edge twice", far(edges()), api.ErrArg},
		{"a point far, two fans", far(fans()), api.ErrArg},
		{"a point far, that nothing names", far(over(4, [3]int{0, 1, 2})), api.ErrArg},
		{"a triangle of none last, an edge twice", edges(no), api.ErrArg},
		{"a triangle of one twice last, an edge twice", edges(twice), api.ErrArg},
		{"a triangle of none last, two fans", fans(no), api.ErrArg},
		{"a triangle of one twice last, two fans", fans(twice), api.ErrArg},
		{"a triangle of none, a point that nothing names", over(4, no), api.ErrArg},
		{"a triangle of one twice, a point that nothing names", over(4, twice), api.ErrArg},
		{"an edge twice, two fans", over(7, [3]int{6, 4, 5}, [3]int{6, 0, 1}, [3]int{2, 0, 1}, [3]int{1, 3, 2}), api.ErrEdge},
		{"an edge twice, the first point unnamed", over(5, [3]int{1, 2, 3}, [3]int{1, 2, 4}), api.ErrEdge},
		{"an edge twice, the last point unnamed", over(5, [3]int{0, 1, 2}, [3]int{0, 1, 3}), api.ErrEdge},
	}
}

// right are surfaces.
func right() []row {
	var l []row
	for _, x := range many() {
		if x.want == api.OK {
			l = append(l, x)
		}
	}
	for _, m := range surfaces() {
		l = append(l, row{"a surface", m, api.OK})
	}
	for _, n := range []int{least, least + 1, -1, 0, 1, greatest - 1, greatest} {
		for i := range 4 {
			x, y, z := two(), two(), two()
			x.P[i].X, y.P[i].Y, z.P[i].Z = n, n, n
			l = append(l, row{"X", x, api.OK}, row{"Y", y, api.OK}, row{"Z", z, api.OK})
		}
	}
	for i := range 3 {
		for j := range 3 {
			t, u := turnedByWords([3]int{0, 1, 2}, i), turnedByWords([3]int{1, 0, 3}, j)
			l = append(l, row{"an edge of two", over(4, t, u), api.OK}, row{"an edge of two", over(4, u, t), api.OK})
		}
	}
	l = append(l, row{"all points the same", api.Mesh{P: make([]api.Point, 4), T: tetra().T}, api.OK})
	l = append(l, row{"nil", api.Mesh{P: nil, T: nil}, api.OK}, row{"empty", api.Mesh{P: []api.Point{}, T: [][3]int{}}, api.OK})
	l = append(l, row{"nil, empty", api.Mesh{P: nil, T: [][3]int{}}, api.OK}, row{"empty, nil", api.Mesh{P: []api.Point{}, T: nil}, api.OK})
	return append(l, numbered([]row{
		{"open fans", wheel(5, false), api.OK},
		{"a closed fan", wheel(5, true), api.OK},
		{"a closed fan of three", wheel(3, true), api.OK},
		{"closed fans of two", pillow(), api.OK},
		{"a ball", octa(), api.OK},
		{"a hoop", hoop(3, 1), api.OK},
	})...)
}

func TestCheck(t *testing.T) {
	for i, x := range append(right(), wrong()...) {
		if e := Check(x.m); e != x.want {
			t.Errorf("row %d, %s: %d, not %d", i, x.name, e, x.want)
		}
	}
}

// TestCheckNamesNil has lists that are nil, and ones that are empty, beside others that are wrong.
func TestCheckNamesNil(t *testing.T) {
	for _, m := range []api.Mesh{{P: one().P}, {P: one().P, T: [][3]int{}}, {P: make([]api.Point, 1), T: [][3]int{}}} {
		if e := Check(m); e != api.ErrVertex {
			t.Errorf("%v: %d", m, e)
		}
	}
	for _, m := range []api.Mesh{{T: one().T}, {P: []api.Point{}, T: one().T}} {
		if e := Check(m); e != api.ErrArg {
			t.Errorf("%v: %d", m, e)
		}
	}
}

// agree holds all that is told of m against the chapter's words.
func agree(t *testing.T, m api.Mesh) api.Errno {
	t.Helper()
	want := checkByWords(m)
	if e := Check(m); e != want {
		t.Fatalf("%v: Check %d, not %d", m, e, want)
	}
	edges, e1 := Edges(m)
	border, e2 := Border(m)
	pieces, e3 := Pieces(m)
	euler, e4 := Euler(m)
	if e1 != want || e2 != want || e3 != want || e4 != want {
		t.Fatalf("%v: %d %d %d %d, not %d", m, e1, e2, e3, e4, want)
	}
	if want != api.OK {
		if len(edges)+len(border)+len(pieces) > 0 || euler != 0 {
			t.Fatalf("%v: beside an error %v %v %v %d", m, edges, border, pieces, euler)
		}
		return want
	}
	if l := edgesByWords(m); !slices.Equal(edges, l) {
		t.Fatalf("%v: edges %v, not %v", m, edges, l)
	}
	if l := borderByWords(m); !slices.Equal(border, l) {
		t.Fatalf("%v: border %v, not %v", m, border, l)
	}
	if l := piecesByWords(m); !slices.Equal(pieces, l) {
		t.Fatalf("%v: pieces %v, not %v", m, pieces, l)
	}
	if n := eulerByWords(m); euler != n {
		t.Fatalf("%v: Euler %d, not %d", m, euler, n)
	}
	return want
}

// TestAllSmall has all rows of up to four triangles over up to four points, each in the places in which it may stand.
func TestAllSmall(t *testing.T) {
	told := map[api.Errno]int{}
	for points := range 5 {
		all := around(points)
		var l [][3]int
		var more func()
		more = func() {
			told[agree(t, over(points, l...))]++
			if len(l) == 4 {
				return
			}
			for i, tri := range all {
				l = append(l, turnedByWords(tri, (i+len(l))%3))
				more()
				l = l[:len(l)-1]
			}
		}
		more()
	}
	if told[api.OK] < 100 || told[api.ErrEdge] < 100 || told[api.ErrVertex] < 10 {
		t.Error(told)
	}
}

// TestAllOverFive has all of up to six triangles over five points, each once; to two that have an edge none is added.
func TestAllOverFive(t *testing.T) {
	told := map[api.Errno]int{}
	all := around(5)
	var l [][3]int
	var from func(i int)
	from = func(i int) {
		e := agree(t, over(5, l...))
		told[e]++
		if len(l) == 6 || e == api.ErrEdge {
			return
		}
		for ; i < len(all); i++ {
			l = append(l, turnedByWords(all[i], i%3))
			from(i + 1)
			l = l[:len(l)-1]
		}
	}
	from(0)
	if told[api.OK] < 100 || told[api.ErrEdge] < 100 || told[api.ErrVertex] < 100 {
		t.Error(told)
	}
}

// TestAnyTriangles has triangles of any points at all, or nearly so.
func TestAnyTriangles(t *testing.T) {
	r := rand.New(rand.NewSource(101))
	told := map[api.Errno]int{}
	for range 6000 {
		points := r.Intn(6)
		m := over(points)
		for range r.Intn(6) {
			var tri [3]int
			for k := range tri {
				tri[k] = r.Intn(points + 1)
				if r.Intn(40) == 0 {
					tri[k] = drawnWord(r)
				}
			}
			m.T = append(m.T, tri)
		}
		if points > 0 && r.Intn(20) == 0 {
			m.P[r.Intn(points)].Y = drawnWord(r)
		}
		told[agree(t, m)]++
	}
	if len(told) < 4 {
		t.Error(told)
	}
}

func TestDrawn(t *testing.T) {
	r := rand.New(rand.NewSource(102))
	told := map[api.Errno]int{}
	for range 2500 {
		told[agree(t, drawnMesh(r))]++
	}
	if told[api.OK] < 400 || told[api.ErrArg] < 100 || told[api.ErrEdge] < 100 || told[api.ErrVertex] < 100 {
		t.Error(told)
	}
}

// TestBesideErrors has each call but Same and Copy tell Check's error, and nothing beside it.
func TestBesideErrors(t *testing.T) {
	for i, x := range wrong() {
		if l, e := Edges(x.m); e != x.want || len(l) > 0 {
			t.Errorf("row %d, %s: Edges %v, %d", i, x.name, l, e)
		}
		if l, e := Border(x.m); e != x.want || len(l) > 0 {
			t.Errorf("row %d, %s: Border %v, %d", i, x.name, l, e)
		}
		if l, e := Pieces(x.m); e != x.want || len(l) > 0 {
			t.Errorf("row %d, %s: Pieces %v, %d", i, x.name, l, e)
		}
		if n, e := Euler(x.m); e != x.want || n != 0 {
			t.Errorf("row %d, %s: Euler %d, %d", i, x.name, n, e)
		}
		for _, by := range [][]int{make([]int, len(x.m.T)), nil, slices.Repeat([]int{3}, len(x.m.T)), make([]int, len(x.m.T)+1)} {
			if m, e := Turned(x.m, by...); e != x.want || len(m.P)+len(m.T) > 0 {
				t.Errorf("row %d, %s: Turned %v, %d", i, x.name, m, e)
			}
		}
	}
}

func TestEdgesAndBorder(t *testing.T) {
	for _, x := range []struct {
		name          string
		m             api.Mesh
		edges, border [][2]int
	}{
		{"nothing", api.Mesh{}, nil, nil},
		{"one", one(), [][2]int{{0, 1}, {0, 2}, {1, 2}}, [][2]int{{0, 1}, {1, 2}, {2, 0}}},
		{"one, the other way", over(3, [3]int{2, 1, 0}), [][2]int{{0, 1}, {0, 2}, {1, 2}}, [][2]int{{0, 2}, {1, 0}, {2, 1}}},
		{"two", two(), [][2]int{{0, 1}, {0, 2}, {1, 2}, {1, 3}, {2, 3}}, [][2]int{{0, 1}, {1, 3}, {2, 0}, {3, 2}}},
		{"pillow", pillow(), [][2]int{{0, 1}, {0, 2}, {1, 2}}, nil},
		{"tetra", tetra(), [][2]int{{0, 1}, {0, 2}, {0, 3}, {1, 2}, {1, 3}, {2, 3}}, nil},
		{"tetra with a hole", without(tetra(), 0), [][2]int{{0, 1}, {0, 2}, {0, 3}, {1, 2}, {1, 3}, {2, 3}}, [][2]int{{0, 1}, {1, 2}, {2, 0}}},
		{"wheel", wheel(3, true), [][2]int{{0, 1}, {0, 2}, {0, 3}, {1, 2}, {1, 3}, {2, 3}}, [][2]int{{1, 2}, {2, 3}, {3, 1}}},
		{"hoop", hoop(3, 1), [][2]int{{0, 1}, {0, 2}, {0, 3}, {0, 4}, {1, 2}, {1, 4}, {1, 5}, {2, 3}, {2, 5}, {3, 4}, {3, 5}, {4, 5}}, [][2]int{{0, 1}, {1, 2}, {2, 0}, {3, 5}, {4, 3}, {5, 4}}},
		{"two pieces", beside(one(), one()), [][2]int{{0, 1}, {0, 2}, {1, 2}, {3, 4}, {3, 5}, {4, 5}}, [][2]int{{0, 1}, {1, 2}, {2, 0}, {3, 4}, {4, 5}, {5, 3}}},
	} {
		edges, e1 := Edges(x.m)
		border, e2 := Border(x.m)
		if e1 != api.OK || e2 != api.OK || !slices.Equal(edges, x.edges) || !slices.Equal(border, x.border) {
			t.Errorf("%s: %v, %d; %v, %d", x.name, edges, e1, border, e2)
		}
	}
}

// TestEdgesRise has numbers of several digits, where rising as text would be another order.
func TestEdgesRise(t *testing.T) {
	r := rand.New(rand.NewSource(103))
	m := shuffled(r, beside(disc(12, 10), torus(9, 15), hoop(40, 2)))
	edges, e1 := Edges(m)
	border, e2 := Border(m)
	// Of a sheet 12 by 10: 12*11 + 13*10 sides of squares, 120 across; of a torus three edges a point; of a hoop 40*3 + 40*2, 80 across.
	if e1 != api.OK || len(edges) != 132+130+120+3*135+120+80+80 || !slices.IsSortedFunc(edges, byVertices) {
		t.Errorf("edges: %d, %d", len(edges), e1)
	}
	if e2 != api.OK || len(border) != 2*12+2*10+2*40 || !slices.IsSortedFunc(border, byVertices) {
		t.Errorf("border: %d, %d", len(border), e2)
	}
	for _, l := range [][][2]int{edges, border} {
		for i := 1; i < len(l); i++ {
			if a, b := l[i-1], l[i]; a[0] > b[0] || a[0] == b[0] && a[1] >= b[1] {
				t.Fatalf("%v ahead of %v", a, b)
			}
		}
	}
	for _, x := range edges {
		if x[0] >= x[1] {
			t.Fatalf("%v", x)
		}
	}
}

func TestPieces(t *testing.T) {
	for _, x := range []struct {
		name string
		m    api.Mesh
		want []int
	}{
		{"nothing", api.Mesh{}, nil},
		{"one", one(), []int{0}},
		{"two", two(), []int{0, 0}},
		{"tetra", tetra(), []int{0, 0, 0, 0}},
		{"one beside one", beside(one(), one()), []int{0, 1}},
		{"one beside two", over(7, [3]int{4, 5, 6}, [3]int{0, 1, 2}, [3]int{2, 1, 3}), []int{0, 1, 1}},
		{"one between two", over(7, [3]int{0, 1, 2}, [3]int{4, 5, 6}, [3]int{2, 1, 3}), []int{0, 1, 0}},
		{"one behind two", over(7, [3]int{0, 1, 2}, [3]int{2, 1, 3}, [3]int{4, 5, 6}), []int{0, 0, 1}},
		{"in turn", over(12, [3]int{9, 10, 11}, [3]int{0, 1, 2}, [3]int{4, 5, 6}, [3]int{2, 1, 3}, [3]int{6, 5, 7}, [3]int{11, 10, 8}), []int{0, 1, 2, 1, 2, 0}},
		{"over another", over(5, [3]int{0, 1, 2}, [3]int{2, 3, 4}, [3]int{0, 2, 4}), []int{0, 0, 0}},
		{"two over a third", over(7, [3]int{0, 1, 2}, [3]int{5, 4, 3}, [3]int{2, 3, 4}, [3]int{5, 6, 4}, [3]int{2, 1, 3}), []int{0, 0, 0, 0, 0}},
	} {
		if l, e := Pieces(x.m); e != api.OK || !slices.Equal(l, x.want) {
			t.Errorf("%s: %v, %d", x.name, l, e)
		}
	}
}

// TestPiecesOfMany has as many pieces as there may be, begun from the last points, and one piece as great as may be.
func TestPiecesOfMany(t *testing.T) {
	const n = api.MaxVerts / 3
	m := over(3 * n)
	for i := range n {
		v := 3 * (n - 1 - i)
		m.T = append(m.T, [3]int{v + 2, v, v + 1})
	}
	l, e := Pieces(m)
	if e != api.OK || len(l) != n {
		t.Fatalf("%d, %d", len(l), e)
	}
	for i, piece := range l {
		if piece != i {
			t.Fatalf("the %d-th: %d", i, piece)
		}
	}
	r := rand.New(rand.NewSource(104))
	for _, m := range []api.Mesh{shuffled(r, torus(40, 100)), shuffled(r, strip(api.MaxVerts))} {
		if l, e := Pieces(m); e != api.OK || len(l) != len(m.T) || slices.Max(l) != 0 {
			t.Errorf("%d, %d", len(l), e)
		}
	}
}

func TestEuler(t *testing.T) {
	for _, x := range []struct {
		name string
		m    api.Mesh
		want int
	}{
		{"nothing", api.Mesh{}, 0},
		{"one", one(), 1},
		{"two", two(), 1},
		{"a disc", disc(3, 5), 1},
		{"a wheel", wheel(6, true), 1},
		{"a long disc", strip(api.MaxVerts), 1},
		{"a ring", hoop(3, 1), 0},
		{"a ring", hoop(5, 4), 0},
		{"two holes", without(hoop(5, 4), 13), -1},
		{"closed", pillow(), 2},
		{"closed", tetra(), 2},
		{"closed", octa(), 2},
		{"closed, with a hole", without(octa(), 3), 1},
		{"a torus", torus(3, 3), 0},
		{"a torus", torus(40, 100), 0},
		{"a torus with a hole", without(torus(4, 3), 3), -1},
		{"two handles", handle(torus(3, 3), torus(4, 3)), -2},
		{"three handles", handle(handle(torus(3, 3), torus(4, 3)), torus(3, 3)), -4},
		{"two pieces", beside(one(), one()), 2},
		{"two pieces", beside(tetra(), octa()), 4},
		{"four pieces", beside(tetra(), torus(3, 3), hoop(3, 3), disc(1, 1)), 3},
		{"two tori", beside(torus(3, 3), handle(torus(3, 3), torus(3, 3))), -2},
	} {
		if n, e := Euler(x.m); e != api.OK || n != x.want {
			t.Errorf("%s: %d, %d; not %d", x.name, n, e, x.want)
		}
	}
}

func TestTurned(t *testing.T) {
	for _, x := range []struct {
		m    api.Mesh
		by   []int
		want [][3]int
	}{
		{one(), []int{0}, [][3]int{{0, 1, 2}}},
		{one(), []int{1}, [][3]int{{1, 2, 0}}},
		{one(), []int{2}, [][3]int{{2, 0, 1}}},
		{two(), []int{0, 0}, [][3]int{{0, 1, 2}, {2, 1, 3}}},
		{two(), []int{0, 1}, [][3]int{{0, 1, 2}, {1, 3, 2}}},
		{two(), []int{0, 2}, [][3]int{{0, 1, 2}, {3, 2, 1}}},
		{two(), []int{1, 0}, [][3]int{{1, 2, 0}, {2, 1, 3}}},
		{two(), []int{1, 1}, [][3]int{{1, 2, 0}, {1, 3, 2}}},
		{two(), []int{1, 2}, [][3]int{{1, 2, 0}, {3, 2, 1}}},
		{two(), []int{2, 0}, [][3]int{{2, 0, 1}, {2, 1, 3}}},
		{two(), []int{2, 1}, [][3]int{{2, 0, 1}, {1, 3, 2}}},
		{two(), []int{2, 2}, [][3]int{{2, 0, 1}, {3, 2, 1}}},
		{tetra(), []int{2, 1, 0, 1}, [][3]int{{1, 0, 2}, {1, 3, 0}, {1, 2, 3}, {0, 3, 2}}},
	} {
		if m, e := Turned(x.m, x.by...); e != api.OK || !slices.Equal(m.T, x.want) || !slices.Equal(m.P, x.m.P) {
			t.Errorf("%v by %v: %v, %d", x.m.T, x.by, m, e)
		}
	}
}

// TestTurnedOfNone has meshes without triangles: no row turns them but an empty one.
func TestTurnedOfNone(t *testing.T) {
	for _, m := range []api.Mesh{{}, {P: []api.Point{}, T: [][3]int{}}} {
		for _, by := range [][]int{nil, {}} {
			if to, e := Turned(m, by...); e != api.OK || len(to.P)+len(to.T) > 0 {
				t.Errorf("by %v: %v, %d", by, to, e)
			}
		}
		for _, by := range [][]int{{0}, {1}, {3}, {-1}, {0, 0, 0}} {
			if to, e := Turned(m, by...); e != api.ErrArg || len(to.P)+len(to.T) > 0 {
				t.Errorf("by %v: %v, %d", by, to, e)
			}
		}
	}
	if _, e := Turned(over(1)); e != api.ErrVertex {
		t.Error(e)
	}
	if _, e := Turned(over(1), 0); e != api.ErrVertex {
		t.Error(e)
	}
	for _, tri := range [][3]int{{0, 1, 3}, {-1, 0, 1}, {0, 1, 1}, {}} {
		for by := range 3 {
			if m, e := Turned(over(3, tri), by); e != api.ErrArg || len(m.P)+len(m.T) > 0 {
				t.Errorf("%v by %d: %v, %d", tri, by, m, e)
			}
		}
	}
}

func TestTurnedByWrong(t *testing.T) {
	m := tetra()
	for n := range 10 {
		to, e := Turned(m, make([]int, n)...)
		if n == 4 && (e != api.OK || !Same(to, m)) || n != 4 && (e != api.ErrArg || len(to.P)+len(to.T) > 0) {
			t.Errorf("%d: %v, %d", n, to, e)
		}
	}
	for i := range 4 {
		for _, n := range []int{-1, 3, 4, -2, -3, 6, math.MinInt, math.MaxInt, 1 << 32, 1<<32 + 1, -1 << 32} {
			by := []int{0, 1, 2, 0}
			by[i] = n
			if to, e := Turned(m, by...); e != api.ErrArg || len(to.P)+len(to.T) > 0 {
				t.Errorf("by %v: %v, %d", by, to, e)
			}
		}
	}
}

func TestTurnedDrawn(t *testing.T) {
	r := rand.New(rand.NewSource(105))
	for range 300 {
		m := drawnSurface(r)
		if Check(m) != api.OK {
			continue
		}
		by := drawnBy(r, len(m.T))
		to, e := Turned(m, by...)
		if e != api.OK || !slices.Equal(to.P, m.P) || len(to.T) != len(m.T) {
			t.Fatalf("%v by %v: %v, %d", m, by, to, e)
		}
		back := make([]int, len(by))
		for i, n := range by {
			if to.T[i] != turnedByWords(m.T[i], n) {
				t.Fatalf("%v by %v: %v", m, by, to)
			}
			back[i] = (3 - n) % 3
		}
		if again, e := Turned(to, back...); e != api.OK || !Same(again, m) {
			t.Fatalf("%v by %v and back: %v", m, by, again)
		}
	}
}

func TestSame(t *testing.T) {
	m := two()
	if !Same(m, m) || !Same(m, two()) || !Same(two(), m) {
		t.Error("not the same")
	}
	var others []api.Mesh
	other := func(change func(m *api.Mesh)) {
		x := two()
		change(&x)
		others = append(others, x)
	}
	for i := range m.P {
		for _, n := range []int{1, -1, 1 << 32, math.MinInt} {
			other(func(m *api.Mesh) { m.P[i].X += n })
			other(func(m *api.Mesh) { m.P[i].Y += n })
			other(func(m *api.Mesh) { m.P[i].Z += n })
		}
	}
	for i := range m.T {
		for k := range 3 {
			for _, n := range []int{1, -1, 1 << 32, math.MinInt} {
				other(func(m *api.Mesh) { m.T[i][k] += n })
			}
		}
		other(func(m *api.Mesh) { m.T[i] = turnedByWords(m.T[i], 1) })
		other(func(m *api.Mesh) { m.T[i] = turnedByWords(m.T[i], 2) })
	}
	other(func(m *api.Mesh) { m.P[0], m.P[1] = m.P[1], m.P[0] })
	other(func(m *api.Mesh) { m.T[0], m.T[1] = m.T[1], m.T[0] })
	other(func(m *api.Mesh) { m.P = m.P[:3] })
	other(func(m *api.Mesh) { m.P = m.P[1:] })
	other(func(m *api.Mesh) { m.T = m.T[:1] })
	other(func(m *api.Mesh) { m.T = m.T[1:] })
	other(func(m *api.Mesh) { m.P = append(m.P, api.Point{}) })
	other(func(m *api.Mesh) { m.T = append(m.T, [3]int{}) })
	other(func(m *api.Mesh) { m.P = nil })
	other(func(m *api.Mesh) { m.T = nil })
	other(func(m *api.Mesh) { m.P, m.T = nil, nil })
	for _, x := range others {
		if Same(m, x) || Same(x, m) {
			t.Errorf("the same: %v", x)
		}
		if !Same(x, x) || !Same(x, api.Mesh{P: slices.Clone(x.P), T: slices.Clone(x.T)}) {
			t.Errorf("not the same: %v", x)
		}
	}
}

func TestSameOfNone(t *testing.T) {
	none := []api.Mesh{{}, {P: []api.Point{}}, {T: [][3]int{}}, {P: []api.Point{}, T: [][3]int{}}, {P: two().P[:0], T: two().T[:0]}}
	some := []api.Mesh{{P: make([]api.Point, 1)}, {T: make([][3]int, 1)}, {P: make([]api.Point, 1), T: make([][3]int, 1)}}
	for i, a := range none {
		for j, b := range none {
			if !Same(a, b) {
				t.Errorf("%d, %d", i, j)
			}
		}
		for j, b := range some {
			if Same(a, b) || Same(b, a) {
				t.Errorf("%d, %d of some", i, j)
			}
		}
	}
	for i, a := range some {
		for j, b := range some {
			if Same(a, b) != (i == j) {
				t.Errorf("%d, %d, both of some", i, j)
			}
		}
	}
}

func TestCopy(t *testing.T) {
	for i, x := range append(right(), wrong()...) {
		m := Copy(x.m)
		if !slices.Equal(m.P, x.m.P) || !slices.Equal(m.T, x.m.T) {
			t.Errorf("row %d, %s: %v", i, x.name, m)
		}
	}
	for i, m := range []api.Mesh{{}, {P: []api.Point{}}, {T: [][3]int{}}, {P: []api.Point{}, T: [][3]int{}}} {
		if to := Copy(m); len(to.P)+len(to.T) > 0 {
			t.Errorf("%d: %v", i, to)
		}
	}
	if m := Copy(api.Mesh{P: one().P}); !slices.Equal(m.P, one().P) || len(m.T) > 0 {
		t.Errorf("points alone: %v", m)
	}
	if m := Copy(api.Mesh{T: one().T}); len(m.P) > 0 || !slices.Equal(m.T, one().T) {
		t.Errorf("triangles alone: %v", m)
	}
}

// roomy is m with room behind its lists, and something there that is nobody's to change.
func roomy(m api.Mesh) api.Mesh {
	p, t := slices.Clone(m.P), slices.Clone(m.T)
	for i := range 9 {
		p, t = append(p, api.Point{X: 700 + i}), append(t, [3]int{800 + i})
	}
	return api.Mesh{P: p[:len(m.P)], T: t[:len(m.T)]}
}

// whole is m with all that is in the room behind its lists.
func whole(m api.Mesh) api.Mesh {
	return api.Mesh{P: m.P[:cap(m.P)], T: m.T[:cap(m.T)]}
}

// overwrite changes all of l, and all of the room behind it.
func overwrite[E any](l []E, with E) {
	for i := range l[:cap(l)] {
		l[:cap(l)][i] = with
	}
}

// TestHandedIn has each call leave what is handed in as it was, in the room behind it too.
func TestHandedIn(t *testing.T) {
	for i, x := range append(right(), wrong()...) {
		m := roomy(x.m)
		by := slices.Repeat([]int{2}, len(m.T)+4)
		was, byWas := roomy(x.m), slices.Clone(by)
		Check(m)
		Edges(m)
		Border(m)
		Pieces(m)
		Euler(m)
		Turned(m, by[:len(m.T)]...)
		Turned(m, by...)
		Same(m, m)
		Copy(m)
		if !slices.Equal(whole(m).P[:len(m.P)+9], whole(was).P[:len(m.P)+9]) || !slices.Equal(whole(m).T[:len(m.T)+9], whole(was).T[:len(m.T)+9]) {
			t.Errorf("row %d, %s: changed", i, x.name)
		}
		if !slices.Equal(by, byWas) {
			t.Errorf("row %d, %s: by changed", i, x.name)
		}
	}
}

// TestHandedOut has all that comes out be changed, room and all: what was handed in, and what else came out, stays.
func TestHandedOut(t *testing.T) {
	for i, given := range surfaces() {
		m := roomy(given)
		was := whole(roomy(given))
		by := make([]int, len(m.T))
		edges, _ := Edges(m)
		border, _ := Border(m)
		pieces, _ := Pieces(m)
		turned, _ := Turned(m, by...)
		to := Copy(m)
		edges2, _ := Edges(m)
		border2, _ := Border(m)
		pieces2, _ := Pieces(m)
		turned2, _ := Turned(m, by...)
		to2 := Copy(m)
		overwrite(edges, [2]int{-7, -7})
		overwrite(border, [2]int{-7, -7})
		overwrite(pieces, -7)
		for _, x := range []api.Mesh{turned, to} {
			overwrite(x.P, api.Point{X: -7})
			overwrite(x.T, [3]int{-7})
		}
		if got := whole(m); !slices.Equal(got.P[:len(m.P)+9], was.P[:len(m.P)+9]) || !slices.Equal(got.T[:len(m.T)+9], was.T[:len(m.T)+9]) {
			t.Errorf("%d: what was handed in: %v", i, m)
		}
		if !slices.Equal(edges2, edgesByWords(given)) || !slices.Equal(border2, borderByWords(given)) || !slices.Equal(pieces2, piecesByWords(given)) {
			t.Errorf("%d: %v %v %v", i, edges2, border2, pieces2)
		}
		if !Same(turned2, given) || !Same(to2, given) {
			t.Errorf("%d: %v %v", i, turned2, to2)
		}
	}
}

// TestNotKept has the lists that are handed in be changed behind a call: what it answered stays.
func TestNotKept(t *testing.T) {
	for i, given := range surfaces() {
		m := roomy(given)
		by := make([]int, len(m.T))
		turned, _ := Turned(m, by...)
		to := Copy(m)
		edges, _ := Edges(m)
		border, _ := Border(m)
		pieces, _ := Pieces(m)
		overwrite(m.P, api.Point{X: -7})
		overwrite(m.T, [3]int{-7})
		overwrite(by, 2)
		if !Same(turned, given) || !Same(to, given) {
			t.Errorf("%d: %v %v", i, turned, to)
		}
		if !slices.Equal(edges, edgesByWords(given)) || !slices.Equal(border, borderByWords(given)) || !slices.Equal(pieces, piecesByWords(given)) {
			t.Errorf("%d: %v %v %v", i, edges, border, pieces)
		}
	}
}

// TestOrder has what holds: neither how triangles begin nor in which order they stand makes a surface or mars one.
func TestOrder(t *testing.T) {
	r := rand.New(rand.NewSource(106))
	small := func(x row) bool { return len(x.m.T) > 100 }
	for i, x := range slices.DeleteFunc(append(right(), wrong()...), small) {
		for range 4 {
			m := placed(x.m, r.Perm(len(x.m.T)), drawnBy(r, len(x.m.T)))
			if e := Check(m); e != x.want {
				t.Errorf("row %d, %s: %v: %d, not %d", i, x.name, m.T, e, x.want)
			}
		}
	}
	for _, x := range many() {
		if m := shuffled(r, x.m); Check(m) != x.want {
			t.Errorf("%s: %d", x.name, Check(m))
		}
	}
}

// TestOrderOfAnswers has the same told of the same triangles in another order, begun elsewhere.
func TestOrderOfAnswers(t *testing.T) {
	r := rand.New(rand.NewSource(107))
	for range 300 {
		a := drawnSurface(r)
		order := r.Perm(len(a.T))
		b := placed(a, order, drawnBy(r, len(a.T)))
		edges1, e1 := Edges(a)
		edges2, e2 := Edges(b)
		border1, _ := Border(a)
		border2, _ := Border(b)
		n1, _ := Euler(a)
		n2, _ := Euler(b)
		if e1 != e2 || n1 != n2 || !slices.Equal(edges1, edges2) || !slices.Equal(border1, border2) {
			t.Fatalf("%v: %v %v %d; %v %v %d", a, edges1, border1, n1, edges2, border2, n2)
		}
		if e1 != api.OK {
			continue
		}
		pieces1, _ := Pieces(a)
		pieces2, _ := Pieces(b)
		for i := range order {
			for j := range order {
				if (pieces1[order[i]] == pieces1[order[j]]) != (pieces2[i] == pieces2[j]) {
					t.Fatalf("%v: pieces %v; %v, by %v", a, pieces1, pieces2, order)
				}
			}
		}
	}
}

// TestAgain has each call tell the same again: nothing is kept, and a map's order is not told.
func TestAgain(t *testing.T) {
	r := rand.New(rand.NewSource(108))
	m := shuffled(r, beside(torus(5, 6), disc(7, 7), hoop(4, 3)))
	edges, _ := Edges(m)
	border, _ := Border(m)
	pieces, _ := Pieces(m)
	for range 20 {
		Check(over(1))
		edges2, _ := Edges(m)
		border2, _ := Border(m)
		pieces2, _ := Pieces(m)
		if !slices.Equal(edges, edges2) || !slices.Equal(border, border2) || !slices.Equal(pieces, pieces2) {
			t.Fatal("told otherwise")
		}
	}
}

func TestExamples(t *testing.T) {
	m := api.Mesh{P: make([]api.Point, 4), T: [][3]int{{0, 1, 2}, {2, 1, 3}}}
	if e := Check(m); e != api.OK {
		t.Error(e)
	}
	if l, e := Edges(m); e != api.OK || len(l) != 5 {
		t.Error(l, e)
	}
	if l, e := Border(m); e != api.OK || len(l) != 4 {
		t.Error(l, e)
	}
	if n, e := Euler(m); e != api.OK || n != 1 {
		t.Error(n, e)
	}
}
