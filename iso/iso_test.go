package iso_test

import (
	"math"
	"math/rand"
	"slices"
	"testing"

	"lapidary/api"
	"lapidary/iso"
	"lapidary/mesh"
	"lapidary/walk"
)

const (
	least    = -1 << 31
	greatest = 1<<31 - 1
)

// none tells whether m is nothing at all, as it is beside an error.
func none(m api.Mesh) bool {
	return len(m.P)+len(m.T) == 0
}

// agreeBack holds Back of these numbers against the chapter's words, and back twice against the numbers.
func agreeBack(t *testing.T, num []int) bool {
	t.Helper()
	want, ok := backByWords(num)
	l, is := iso.Back(num...)
	if is != ok || !slices.Equal(l, want) {
		t.Errorf("%v: Back %v, %v; not %v, %v", num, l, is, want, ok)
	}
	if !ok {
		return false
	}
	if twice, is := iso.Back(l...); !is || !slices.Equal(twice, num) {
		t.Errorf("%v: Back of %v is %v, %v", num, l, twice, is)
	}
	return true
}

func TestBackByHand(t *testing.T) {
	for _, x := range []struct {
		num, want []int
	}{
		{nil, nil},
		{[]int{}, nil},
		{[]int{0}, []int{0}},
		{[]int{0, 1}, []int{0, 1}},
		{[]int{1, 0}, []int{1, 0}},
		{[]int{2, 0, 1}, []int{1, 2, 0}},
		{[]int{1, 2, 0}, []int{2, 0, 1}},
		{[]int{3, 1, 0, 2}, []int{2, 1, 3, 0}},
		{[]int{4, 3, 2, 1, 0}, []int{4, 3, 2, 1, 0}},
		{[]int{1, 2, 3, 4, 0}, []int{4, 0, 1, 2, 3}},
	} {
		if l, ok := iso.Back(x.num...); !ok || !slices.Equal(l, x.want) {
			t.Errorf("%v: %v, %v; not %v", x.num, l, ok, x.want)
		}
		agreeBack(t, x.num)
	}
}

// noNumberings are rows of n numbers, n at least 2, that are none: in each place another number, the first and the last one there are among them.
func noNumberings(n int) [][]int {
	var l [][]int
	for at := range n {
		for _, x := range []int{-1, n, n + 1, -n, 1 << 32, -1 << 32, math.MinInt, math.MaxInt, (at + 1) % n, (at + n - 1) % n} {
			num := numbers(n)
			num[at] = x
			l = append(l, num)
		}
	}
	return append(l, make([]int, n))
}

func TestBackOfNone(t *testing.T) {
	rows := slices.Concat(noNumberings(2), noNumberings(3), noNumberings(7), [][]int{{1}, {-1}, {math.MinInt}, {math.MaxInt}, {1, 2, 3}})
	for _, num := range rows {
		if l, ok := iso.Back(num...); ok || len(l) > 0 {
			t.Errorf("%v: %v, %v", num, l, ok)
		}
	}
}

// TestBackOfAllSmall has all rows of up to five numbers from -1 to one too great.
func TestBackOfAllSmall(t *testing.T) {
	for n := range 6 {
		num := make([]int, n)
		count := 0
		var from func(at int)
		from = func(at int) {
			if at == n {
				if agreeBack(t, num) {
					count++
				}
				return
			}
			for x := -1; x <= n; x++ {
				num[at] = x
				from(at + 1)
			}
		}
		from(0)
		if count != len(numberings(n)) {
			t.Errorf("%d numberings of %d", count, n)
		}
	}
}

// TestBackOfMany has long numberings, and such with one number changed; more than a mesh has points, too.
func TestBackOfMany(t *testing.T) {
	r := rand.New(rand.NewSource(131))
	for _, n := range []int{10, 100, api.MaxVerts, 3 * api.MaxTris} {
		num := r.Perm(n)
		l, ok := iso.Back(num...)
		if !ok || len(l) != n {
			t.Fatalf("%d: %d, %v", n, len(l), ok)
		}
		for i, x := range num {
			if l[x] != i {
				t.Fatalf("%d: of %d %d, not %d", n, x, l[x], i)
			}
		}
		for _, at := range []int{0, n / 2, n - 1} {
			for _, x := range []int{-1, n, num[(at+1)%n]} {
				wrong := slices.Clone(num)
				wrong[at] = x
				if l, ok := iso.Back(wrong...); ok || len(l) > 0 {
					t.Errorf("%d: %d at %d: %v", n, x, at, ok)
				}
			}
		}
	}
}

// row is a mesh, and what mesh.Check tells of it.
type row struct {
	name string
	m    api.Mesh
	want api.Errno
}

// wrong has some rows for each thing that is no surface.
func wrong() []row {
	return slices.Concat(wrongLong(), wrongArg(), wrongShape(), wrongTwice())
}

func wrongLong() []row {
	longer := append(torus(api.MaxVerts).T, [3]int{0, 1, 2})
	return []row{
		{"a point more", band(api.MaxVerts - 1), api.ErrLong},
		{"a triangle more", over(api.MaxVerts, longer...), api.ErrLong},
		{"points alone, one more than may be", over(api.MaxVerts + 1), api.ErrLong},
		{"triangles alone", api.Mesh{T: make([][3]int, api.MaxTris+1)}, api.ErrLong},
	}
}

func wrongArg() []row {
	var l []row
	for _, n := range []int{least - 1, greatest + 1, math.MinInt, math.MaxInt} {
		x, y, z := two(), two(), two()
		x.P[0].X, y.P[1].Y, z.P[3].Z = n, n, n
		l = append(l, row{"X", x, api.ErrArg}, row{"Y", y, api.ErrArg}, row{"Z", z, api.ErrArg})
	}
	for i := range 2 {
		for k := range 3 {
			for _, v := range []int{-1, 4, math.MinInt, math.MaxInt, two().T[i][(k+1)%3]} {
				m := two()
				m.T[i][k] = v
				l = append(l, row{"a point that is none, or twice", m, api.ErrArg})
			}
		}
	}
	return append(l, row{"no points", api.Mesh{T: one().T}, api.ErrArg})
}

func wrongShape() []row {
	return []row{
		{"an edge twice", over(4, [3]int{0, 1, 2}, [3]int{0, 1, 3}), api.ErrEdge},
		{"a triangle twice", over(3, [3]int{0, 1, 2}, [3]int{0, 1, 2}), api.ErrEdge},
		{"a triangle twice, begun elsewhere", over(3, [3]int{0, 1, 2}, [3]int{1, 2, 0}), api.ErrEdge},
		{"a triangle of a ball turned round", over(4, append(without(tetra(), 0).T, [3]int{2, 1, 0})...), api.ErrEdge},
		{"a point alone", over(1), api.ErrVertex},
		{"points alone", over(7), api.ErrVertex},
		{"a point that nothing names", over(5, two().T...), api.ErrVertex},
		{"two fans", over(5, [3]int{0, 1, 2}, [3]int{0, 3, 4}), api.ErrVertex},
		{"two fans of one piece", over(5, [3]int{0, 1, 2}, [3]int{2, 1, 3}, [3]int{2, 3, 4}, [3]int{4, 3, 0}), api.ErrVertex},
	}
}

// wrongTwice has more than one thing wrong: what comes first in mesh.Check is told.
func wrongTwice() []row {
	far := func(m api.Mesh) api.Mesh {
		m.P[0].Y = greatest + 1
		return m
	}
	return []row{
		{"more points, one far", far(band(api.MaxVerts - 1)), api.ErrLong},
		{"a point far, an edge twice", far(over(4, [3]int{0, 1, 2}, [3]int{0, 1, 3})), api.ErrArg},
		{"an edge twice, a point that nothing names", over(5, [3]int{0, 1, 2}, [3]int{0, 1, 3}), api.ErrEdge},
	}
}

// TestWrong has each call tell mesh.Check's error, whatever the numbers are.
func TestWrong(t *testing.T) {
	for _, x := range wrong() {
		n := len(x.m.P)
		for _, num := range [][]int{numbers(n), nil, numbers(n + 1), make([]int, n)} {
			if m, e := iso.Renamed(x.m, num...); e != x.want || !none(m) {
				t.Errorf("%s: Renamed %d; not %d", x.name, e, x.want)
			}
			if iso.Is(x.m, x.m, num...) || iso.Is(x.m, two(), num...) || iso.Is(two(), x.m, num...) {
				t.Errorf("%s: Is", x.name)
			}
		}
		if iso.Is(two(), x.m, 0, 1, 2, 3) || iso.Is(x.m, two(), 0, 1, 2, 3) || iso.Is(api.Mesh{}, x.m) || iso.Is(x.m, api.Mesh{}) {
			t.Errorf("%s: Is", x.name)
		}
		for _, at := range [][2]int{{0, 0}, {-1, 0}, {len(x.m.T), 0}, {0, -1}, {0, 3}, {math.MinInt, math.MaxInt}} {
			if m, e := iso.From(x.m, at[0], at[1]); e != x.want || !none(m) {
				t.Errorf("%s: From %v %d; not %d", x.name, at, e, x.want)
			}
		}
		if l, e := iso.Witness(x.m); e != x.want || len(l) > 0 {
			t.Errorf("%s: Witness %v, %d; not %d", x.name, l, e, x.want)
		}
	}
}

// agreeRenamed holds Renamed against the chapter's words.
func agreeRenamed(t *testing.T, m api.Mesh, num []int) api.Errno {
	t.Helper()
	want, e := renamedByWords(m, num)
	got, err := iso.Renamed(m, num...)
	if err != e || !mesh.Same(got, want) {
		t.Errorf("%v by %v: %v, %d; not %v, %d", m, num, got, err, want, e)
	}
	return e
}

func TestRenamedByHand(t *testing.T) {
	a, b, c, d := api.Point{X: 5}, api.Point{Y: -6}, api.Point{Z: 7}, api.Point{X: least, Y: greatest}
	m := api.Mesh{P: []api.Point{a, b, c, d}, T: [][3]int{{0, 1, 2}, {2, 1, 3}}}
	for _, x := range []struct {
		num  []int
		want api.Mesh
	}{
		{[]int{0, 1, 2, 3}, m},
		{[]int{1, 0, 2, 3}, api.Mesh{P: []api.Point{b, a, c, d}, T: [][3]int{{1, 0, 2}, {2, 0, 3}}}},
		{[]int{1, 2, 3, 0}, api.Mesh{P: []api.Point{d, a, b, c}, T: [][3]int{{1, 2, 3}, {3, 2, 0}}}},
		{[]int{3, 0, 1, 2}, api.Mesh{P: []api.Point{b, c, d, a}, T: [][3]int{{3, 0, 1}, {1, 0, 2}}}},
		{[]int{2, 0, 3, 1}, api.Mesh{P: []api.Point{b, d, a, c}, T: [][3]int{{2, 0, 3}, {3, 0, 1}}}},
	} {
		if got, e := iso.Renamed(m, x.num...); e != api.OK || !mesh.Same(got, x.want) {
			t.Errorf("%v: %v, %d; not %v", x.num, got, e, x.want)
		}
		agreeRenamed(t, m, x.num)
	}
}

// TestRenamed has surfaces by many numberings, and by numbers that are none of their points.
func TestRenamed(t *testing.T) {
	r := rand.New(rand.NewSource(132))
	for _, m := range surfaces() {
		n := len(m.P)
		for range 20 {
			if e := agreeRenamed(t, m, r.Perm(n)); e != api.OK {
				t.Error(e)
			}
		}
		if n > 0 {
			refuseNumbers(t, m)
		}
		if e := agreeRenamed(t, m, r.Perm(n+1)); e != api.ErrArg {
			t.Error(e)
		}
	}
}

// refuseNumbers has Renamed refuse numbers that are no numbering of m's points, of which there are some.
func refuseNumbers(t *testing.T, m api.Mesh) {
	t.Helper()
	n := len(m.P)
	for _, num := range append(noNumberings(n), nil, []int{}, numbers(n-1), numbers(n+1), numbers(2*n), numbers(n)[1:]) {
		if got, e := iso.Renamed(m, num...); e != api.ErrArg || !none(got) {
			t.Errorf("%v by %v: %v, %d", m, num, got, e)
		}
	}
}

// TestRenamedOfNone has the surface of no points: whichever of its lists are nil.
func TestRenamedOfNone(t *testing.T) {
	for _, m := range []api.Mesh{{}, {P: []api.Point{}}, {T: [][3]int{}}, {P: one().P[:0], T: one().T[:0]}} {
		if got, e := iso.Renamed(m); e != api.OK || !none(got) {
			t.Error(got, e)
		}
		if got, e := iso.Renamed(m, []int{}...); e != api.OK || !none(got) {
			t.Error(got, e)
		}
		for _, num := range [][]int{{0}, {-1}, {1, 0}} {
			if got, e := iso.Renamed(m, num...); e != api.ErrArg || !none(got) {
				t.Error(got, e)
			}
		}
		if !iso.Is(m, api.Mesh{}) || !iso.Is(api.Mesh{}, m) || !iso.Is(m, m, []int{}...) || iso.Is(m, m, 0) {
			t.Error("Is")
		}
		if l, e := iso.Witness(m); e != api.OK || len(l) > 0 {
			t.Error(l, e)
		}
		if c, e := iso.From(m, 0, 0); e != api.ErrArg || !none(c) {
			t.Error(c, e)
		}
	}
}

// agreeIs holds Is against the chapter's words; what is one by some numbers is so back, by these numbers back.
func agreeIs(t *testing.T, a, b api.Mesh, num []int) bool {
	t.Helper()
	want := isByWords(a, b, num)
	if is := iso.Is(a, b, num...); is != want {
		t.Errorf("%v and %v by %v: Is %v", a, b, num, is)
	}
	if back, ok := iso.Back(num...); ok && len(num) == len(a.P) && iso.Is(b, a, back...) != want {
		t.Errorf("%v and %v by %v back: Is %v", b, a, back, !want)
	}
	return want
}

// TestIs has surfaces, by any numbers, with the triangles in any order, begun anywhere.
func TestIs(t *testing.T) {
	r := rand.New(rand.NewSource(133))
	for _, given := range surfaces() {
		for range 8 {
			m := fewer(r, given)
			if !agreeIs(t, m, m, numbers(len(m.P))) {
				t.Errorf("%v: not itself", m)
			}
			num := r.Perm(len(m.P))
			named, _ := iso.Renamed(m, num...)
			if !agreeIs(t, m, named, num) || !agreeIs(t, m, stirred(r, named), num) || !agreeIs(t, stirred(r, m), named, num) {
				t.Errorf("%v and %v by %v: not one", m, named, num)
			}
		}
	}
}

// TestIsOtherTriangles has b differ from what a is renamed to, in a triangle or more.
func TestIsOtherTriangles(t *testing.T) {
	r := rand.New(rand.NewSource(134))
	for _, m := range surfaces() {
		num := r.Perm(len(m.P))
		b, _ := iso.Renamed(m, num...)
		for i, tri := range b.T {
			round, twice, more := mesh.Copy(b), mesh.Copy(b), mesh.Copy(b)
			round.T[i] = [3]int{tri[0], tri[2], tri[1]}
			twice.T[i] = b.T[(i+1)%len(b.T)]
			more.T = append(more.T, turned(tri, i))
			others := []api.Mesh{without(b, i), more}
			if len(b.T) > 1 {
				others = append(others, twice, round)
			}
			for _, other := range others {
				if agreeIs(t, m, other, num) {
					t.Errorf("%v by %v: %v", m, num, other)
				}
			}
		}
	}
}

// onSamePoints are surfaces on the same points with other triangles: what tells of them apart from their triangles is the same.
func onSamePoints() [][]api.Mesh {
	whole := []api.Mesh{ball(6), torus(12), joined(torus(8), torus(9))}
	l := [][]api.Mesh{
		{two(), over(4, [3]int{0, 1, 3}, [3]int{0, 3, 2}), over(4, [3]int{3, 1, 2}, [3]int{2, 1, 0})},
		{one(), mirrored(one()), pillow()},
		{tetra(), mirrored(tetra()), without(tetra(), 0), without(tetra(), 1), without(tetra(), 2), without(tetra(), 3)},
	}
	for _, m := range whole {
		all := []api.Mesh{m, mirrored(m)}
		for i := range m.T {
			all = append(all, without(m, i))
		}
		l = append(l, all)
	}
	return l
}

// TestIsOnSamePoints has one more triangle, one fewer, one for another one, and all the other way round, of which each is a surface.
func TestIsOnSamePoints(t *testing.T) {
	for _, all := range onSamePoints() {
		for i, a := range all {
			if e := mesh.Check(a); e != api.OK {
				t.Errorf("%v: %d", a.T, e)
			}
			for j, b := range all {
				if agreeIs(t, a, b, numbers(len(a.P))) != (i == j) {
					t.Errorf("%v and %v: %v", a, b, i != j)
				}
			}
		}
	}
}

// TestIsMirrored has what is turned round be another one, but for a pillow, both of whose triangles change their places.
func TestIsMirrored(t *testing.T) {
	for _, m := range surfaces()[1:] {
		want := len(m.T) == 2 && len(m.P) == 3
		if agreeIs(t, m, mirrored(m), numbers(len(m.P))) != want {
			t.Errorf("%v: %v", m, !want)
		}
	}
}

// TestIsOtherPoints has one point changed in one coordinate, two points changed for one another, and points more or fewer.
func TestIsOtherPoints(t *testing.T) {
	r := rand.New(rand.NewSource(135))
	for _, m := range surfaces()[1:] {
		num := r.Perm(len(m.P))
		b, _ := iso.Renamed(m, num...)
		for v := range b.P {
			x, y, z, w := mesh.Copy(b), mesh.Copy(b), mesh.Copy(b), mesh.Copy(b)
			x.P[v].X++
			y.P[v].Y--
			z.P[v].Z--
			next := (v + 1) % len(w.P)
			w.P[v], w.P[next] = w.P[next], w.P[v]
			for _, other := range []api.Mesh{x, y, z, w} {
				if agreeIs(t, m, other, num) || agreeIs(t, flat(m), other, num) {
					t.Errorf("%v by %v: %v", m, num, other)
				}
			}
			if !agreeIs(t, flat(m), flat(w), num) {
				t.Errorf("%v by %v: points that are the same", m, num)
			}
		}
		more, less := mesh.Copy(b), mesh.Copy(b)
		more.P, less.P = append(more.P, api.Point{}), less.P[1:]
		for _, other := range []api.Mesh{more, less, {P: b.P}, {T: b.T}, {}, beside(b, one())} {
			if agreeIs(t, m, other, num) || agreeIs(t, other, m, num) {
				t.Errorf("%v by %v: %v", m, num, other)
			}
		}
	}
}

// TestIsNoNumbering has numbers that are no numbering of a's points.
func TestIsNoNumbering(t *testing.T) {
	for _, m := range surfaces()[1:] {
		m = flat(m) // so that a number that is wrong finds the same point
		n := len(m.P)
		for _, num := range append(noNumberings(n), nil, numbers(n-1), numbers(n+1), numbers(n)[1:]) {
			if agreeIs(t, m, m, num) {
				t.Errorf("%v by %v", m, num)
			}
		}
	}
}

// TestIsOfNumbers has one of the right numbers changed for another one.
func TestIsOfNumbers(t *testing.T) {
	r := rand.New(rand.NewSource(136))
	for _, m := range surfaces()[1:] {
		num := r.Perm(len(m.P))
		b, _ := iso.Renamed(m, num...)
		for v := range num {
			for w := range v {
				other := slices.Clone(num)
				other[v], other[w] = num[w], num[v]
				if agreeIs(t, m, b, other) {
					t.Errorf("%v and %v by %v", m, b, other)
				}
				agreeIs(t, flat(m), flat(b), other)
			}
		}
	}
}

// TestIsItself counts by how many numberings a surface, all of whose points are the same, is itself: they were counted on paper.
func TestIsItself(t *testing.T) {
	for _, x := range []struct {
		name string
		m    api.Mesh
		want int
	}{
		{"nothing", api.Mesh{}, 1},
		{"one: begun at each of its points", one(), 3},
		{"two: by half a turn", two(), 2},
		{"pillow: by all", pillow(), 6},
		{"tetra: each triangle upon each, three ways", tetra(), 12},
		{"wheel: by turns", wheel(5), 5},
		{"wheel of three: its middle stays", wheel(3), 3},
		{"ball of three: its ends stay or change", ball(3), 6},
		{"ball of four: each triangle upon each, three ways", ball(4), 24},
		{"ball of five", ball(5), 10},
		{"band of three: the middle one stays", band(3), 1},
		{"band of four: by half a turn", band(4), 2},
		{"hoop: round, and by half turns", hoop(6), 6},
		{"torus of seven: each triangle upon each, three ways", torus(7), 42},
		{"one and one", beside(one(), one()), 18},
		{"one and pillow", beside(one(), pillow()), 18},
	} {
		count := 0
		for _, num := range numberings(len(x.m.P)) {
			if agreeIs(t, flat(x.m), flat(x.m), num) {
				count++
			}
		}
		if count != x.want {
			t.Errorf("%s: %d; not %d", x.name, count, x.want)
		}
	}
}

// around are all triangles of so many points, each once.
func around(points int) [][3]int {
	var l [][3]int
	for a := range points {
		for b := a + 1; b < points; b++ {
			for c := a + 1; c < points; c++ {
				if b != c {
					l = append(l, turned([3]int{a, b, c}, a+b+c))
				}
			}
		}
	}
	return l
}

// smallOnes are all meshes of up to four of the triangles of so many points, surfaces first.
func smallOnes(points int) (all []api.Mesh, surfaces int) {
	tris := around(points)
	var others []api.Mesh
	for set := range 1 << len(tris) {
		var l [][3]int
		for i, t := range tris {
			if set>>i&1 == 1 {
				l = append(l, t)
			}
		}
		switch m := flat(over(points, l...)); {
		case len(l) > 4:
		case mesh.Check(m) == api.OK:
			all = append(all, m)
		default:
			others = append(others, m)
		}
	}
	return append(all, others...), len(all)
}

// TestIsOfAllSmall has all pairs of small surfaces, by all numberings, and those of which one is none.
func TestIsOfAllSmall(t *testing.T) {
	r := rand.New(rand.NewSource(137))
	count := 0
	for points := range 5 {
		all, surfaces := smallOnes(points)
		for i, a := range all {
			for j, b := range all {
				if i >= surfaces || j >= surfaces {
					agreeIs(t, a, b, r.Perm(points))
					continue
				}
				for _, num := range numberings(points) {
					if agreeIs(t, a, stirred(r, b), num) {
						count++
					}
				}
			}
		}
		// each surface is one with what it is renamed to, by each numbering
		if want := surfaces * len(numberings(points)); count != want {
			t.Errorf("%d points: %d; not %d", points, count, want)
		}
		count = 0
	}
}

// TestAnything has meshes, numbers and places of all kinds, or nearly so, in all calls.
func TestAnything(t *testing.T) {
	r := rand.New(rand.NewSource(138))
	word := func() int { return int(r.Uint64()) >> r.Intn(64) }
	draw := func(points int) api.Mesh {
		m := flat(over(points))
		for range r.Intn(5) {
			m.T = append(m.T, [3]int{r.Intn(points + 1), r.Intn(points + 1), r.Intn(points + 1)})
		}
		if len(m.T) > 0 && r.Intn(10) == 0 {
			m.T[r.Intn(len(m.T))][r.Intn(3)] = word()
		}
		if points > 0 && r.Intn(20) == 0 {
			m.P[r.Intn(points)].Z = word()
		}
		return m
	}
	count := map[api.Errno]int{}
	for range 20000 {
		points := r.Intn(5)
		a, b, num := draw(points), draw(points), r.Perm(points)
		if r.Intn(3) == 0 {
			num = append(num, word())
			num = num[r.Intn(len(num)):]
		}
		agreeBack(t, num)
		count[agreeRenamed(t, a, num)]++
		agreeIs(t, a, b, num)
		agreeFrom(t, a, word(), word())
		agreeFrom(t, a, r.Intn(6)-1, r.Intn(5)-1)
		agreeWitness(t, a)
	}
	if len(count) < 4 {
		t.Error(count)
	}
}

// agreeFrom holds From against the canon of triangles so ordered and begun.
func agreeFrom(t *testing.T, m api.Mesh, at, k int) api.Errno {
	t.Helper()
	var want api.Mesh
	e := mesh.Check(m)
	switch {
	case e != api.OK:
	case at < 0 || at > len(m.T)-1 || k != 0 && k != 1 && k != 2:
		e = api.ErrArg
	default:
		want, _ = walk.Canon(ahead(m, at, k))
	}
	if c, err := iso.From(m, at, k); err != e || !mesh.Same(c, want) {
		t.Errorf("%v from %d, %d: %v, %d; not %v, %d", m, at, k, c, err, want, e)
	}
	return e
}

func TestFromByHand(t *testing.T) {
	m := two()
	a, b, c, d := m.P[0], m.P[1], m.P[2], m.P[3]
	for _, x := range []struct {
		at, k int
		p     []api.Point
		t     [][3]int
	}{
		{0, 0, []api.Point{a, b, c, d}, [][3]int{{0, 1, 2}, {2, 1, 3}}},
		{0, 1, []api.Point{b, c, a, d}, [][3]int{{0, 1, 2}, {1, 0, 3}}},
		{0, 2, []api.Point{c, a, b, d}, [][3]int{{0, 1, 2}, {0, 2, 3}}},
		{1, 0, []api.Point{c, b, d, a}, [][3]int{{0, 1, 2}, {1, 0, 3}}},
		{1, 1, []api.Point{b, d, c, a}, [][3]int{{0, 1, 2}, {0, 2, 3}}},
		{1, 2, []api.Point{d, c, b, a}, [][3]int{{0, 1, 2}, {2, 1, 3}}},
	} {
		if got, e := iso.From(m, x.at, x.k); e != api.OK || !slices.Equal(got.P, x.p) || !slices.Equal(got.T, x.t) {
			t.Errorf("%d, %d: %v, %d", x.at, x.k, got, e)
		}
	}
}

// TestFromPieces has the pieces behind that of the first triangle in their order, each from its own first triangle on.
func TestFromPieces(t *testing.T) {
	m := over(12, [3]int{3, 4, 5}, [3]int{0, 1, 2}, [3]int{6, 7, 8}, [3]int{9, 10, 11})
	for at, verts := range [][]int{
		{4, 5, 3, 0, 1, 2, 6, 7, 8, 9, 10, 11},
		{1, 2, 0, 3, 4, 5, 6, 7, 8, 9, 10, 11},
		{7, 8, 6, 3, 4, 5, 0, 1, 2, 9, 10, 11},
		{10, 11, 9, 3, 4, 5, 0, 1, 2, 6, 7, 8},
	} {
		var want []api.Point
		for _, v := range verts {
			want = append(want, m.P[v])
		}
		c, e := iso.From(m, at, 1)
		if e != api.OK || !slices.Equal(c.P, want) || !slices.Equal(c.T, [][3]int{{0, 1, 2}, {3, 4, 5}, {6, 7, 8}, {9, 10, 11}}) {
			t.Errorf("%d: %v, %d", at, c, e)
		}
	}
}

// TestFrom has all triangles of surfaces, from each of their vertices on.
func TestFrom(t *testing.T) {
	r := rand.New(rand.NewSource(139))
	for _, given := range surfaces() {
		m := shuffled(r, given)
		for at := range m.T {
			for k := range 3 {
				if e := agreeFrom(t, m, at, k); e != api.OK {
					t.Errorf("%v from %d, %d: %d", m, at, k, e)
				}
				if c, _ := iso.From(m, at, k); !walk.Is(c) || c.P[0] != m.P[m.T[at][k]] {
					t.Errorf("%v from %d, %d: %v", m, at, k, c)
				}
			}
		}
		first, _ := iso.From(m, 0, 0)
		if c, _ := walk.Canon(m); !mesh.Same(c, first) {
			t.Errorf("%v: %v; not %v", m, first, c)
		}
	}
}

// TestFromNowhere has places and vertices that are none.
func TestFromNowhere(t *testing.T) {
	for _, m := range surfaces() {
		n := len(m.T)
		for _, at := range []int{-1, n, n + 1, -n - 1, 1 << 32, -1 << 32, math.MinInt, math.MaxInt} {
			for _, k := range []int{0, 1, 2, 3, -1} {
				if c, e := iso.From(m, at, k); e != api.ErrArg || !none(c) {
					t.Errorf("%v from %d, %d: %v, %d", m, at, k, c, e)
				}
			}
		}
		for at := range n {
			for _, k := range []int{-1, 3, -3, 4, 1 << 32, -1 << 32, math.MinInt, math.MaxInt} {
				if c, e := iso.From(m, at, k); e != api.ErrArg || !none(c) {
					t.Errorf("%v from %d, %d: %v, %d", m, at, k, c, e)
				}
			}
		}
	}
}

// agreeWitness holds Witness against the walk: the n-th vertex that is met has the number n, and by these numbers m is its canon.
func agreeWitness(t *testing.T, m api.Mesh) api.Errno {
	t.Helper()
	verts, places, e := walk.Order(m)
	num, err := iso.Witness(m)
	if err != e || len(num) != len(verts) {
		t.Errorf("%v: Witness %v, %d; not %d", m, num, err, e)
		return e
	}
	for n, v := range verts {
		if num[v] != n {
			t.Errorf("%v: Witness %v; not back of %v", m, num, verts)
		}
	}
	if e != api.OK {
		return e
	}
	c, _ := walk.Canon(m)
	named, err := iso.Renamed(m, num...)
	if err != api.OK || !slices.Equal(named.P, c.P) || !iso.Is(m, c, num...) {
		t.Errorf("%v: by %v it is %v, %d; not %v", m, num, named, err, c)
		return e
	}
	for i, at := range places {
		if !areAmong(named.T[at:at+1], c.T[i:i+1]) {
			t.Errorf("%v: by %v the triangle %d is %v; not %v", m, num, at, named.T[at], c.T[i])
		}
	}
	if again, _ := walk.Canon(named); !mesh.Same(again, c) {
		t.Errorf("%v: by %v it has the canon %v; not %v", m, num, again, c)
	}
	return e
}

func TestWitnessByHand(t *testing.T) {
	for _, x := range []struct {
		m    api.Mesh
		want []int
	}{
		{one(), []int{0, 1, 2}},
		{over(3, [3]int{1, 2, 0}), []int{2, 0, 1}},
		{over(3, [3]int{2, 0, 1}), []int{1, 2, 0}},
		{over(3, [3]int{2, 1, 0}), []int{2, 1, 0}},
		{two(), []int{0, 1, 2, 3}},
		{over(4, [3]int{2, 1, 3}, [3]int{0, 1, 2}), []int{3, 1, 0, 2}},
		{over(6, [3]int{0, 1, 2}, [3]int{1, 0, 3}, [3]int{2, 1, 4}, [3]int{0, 2, 5}), []int{0, 1, 2, 5, 4, 3}},
		{over(4, [3]int{3, 1, 0}, [3]int{1, 2, 0}, [3]int{3, 0, 2}, [3]int{2, 1, 3}), []int{2, 1, 3, 0}},
		{over(7, [3]int{4, 5, 6}, [3]int{0, 1, 2}, [3]int{2, 1, 3}), []int{3, 4, 5, 6, 0, 1, 2}},
		{over(7, [3]int{2, 1, 3}, [3]int{0, 1, 2}, [3]int{6, 4, 5}), []int{3, 1, 0, 2, 5, 6, 4}},
	} {
		if num, e := iso.Witness(x.m); e != api.OK || !slices.Equal(num, x.want) {
			t.Errorf("%v: %v, %d; not %v", x.m.T, num, e, x.want)
		}
		agreeWitness(t, x.m)
	}
}

// TestWitness has surfaces of all kinds, and their canons, which by their own numbers are themselves.
func TestWitness(t *testing.T) {
	r := rand.New(rand.NewSource(140))
	for _, given := range surfaces() {
		for range 8 {
			m := shuffled(r, fewer(r, given))
			if e := agreeWitness(t, m); e != api.OK {
				t.Errorf("%v: %d", m, e)
			}
			agreeWitness(t, flat(m))
			c, _ := walk.Canon(m)
			if num, e := iso.Witness(c); e != api.OK || !slices.Equal(num, numbers(len(m.P))) {
				t.Errorf("%v: of the canon %v, %d", m, num, e)
			}
		}
	}
}

// TestBackHolds has what is one with a second be the second's, by these numbers back; and a third's, by both behind one another.
func TestBackHolds(t *testing.T) {
	r := rand.New(rand.NewSource(141))
	for _, a := range surfaces() {
		num, more := r.Perm(len(a.P)), r.Perm(len(a.P))
		b, _ := iso.Renamed(a, num...)
		c, _ := iso.Renamed(b, more...)
		b, c = stirred(r, b), stirred(r, c)
		back, ok := iso.Back(num...)
		if !ok || !iso.Is(a, b, num...) || !iso.Is(b, a, back...) {
			t.Errorf("%v and %v by %v, back %v", a, b, num, back)
		}
		if again, e := iso.Renamed(b, back...); e != api.OK || !slices.Equal(again.P, a.P) || !iso.Is(again, a, numbers(len(a.P))...) {
			t.Errorf("%v by %v, and back by %v: %v, %d", a, num, back, again, e)
		}
		both := make([]int, len(num))
		for v, n := range num {
			both[v] = more[n]
		}
		if !iso.Is(a, c, both...) {
			t.Errorf("%v and %v by %v", a, c, both)
		}
	}
}

// TestMost has as many points and triangles as there may be.
func TestMost(t *testing.T) {
	r := rand.New(rand.NewSource(142))
	for _, x := range []struct {
		name string
		m    api.Mesh
	}{
		{"closed, with a handle", torus(api.MaxVerts)},
		{"a band", band(api.MaxVerts - 2)},
		{"a wheel", wheel(api.MaxVerts - 1)},
		{"a ball", ball(api.MaxVerts - 2)},
		{"many pieces", beside(slices.Repeat([]api.Mesh{one()}, api.MaxVerts/3)...)},
	} {
		num := r.Perm(len(x.m.P))
		b, e := iso.Renamed(x.m, num...)
		want, _ := renamedByWords(x.m, num)
		if e != api.OK || !mesh.Same(b, want) || !iso.Is(x.m, stirred(r, b), num...) {
			t.Errorf("%s: %d", x.name, e)
		}
		last := len(b.T) - 1
		if iso.Is(x.m, without(b, last), num...) || iso.Is(x.m, mirrored(b), num...) {
			t.Errorf("%s: Is", x.name)
		}
		canon, _ := walk.Canon(ahead(b, last, 2))
		if c, e := iso.From(b, last, 2); e != api.OK || !mesh.Same(c, canon) {
			t.Errorf("%s: From %d", x.name, e)
		}
		canon, _ = walk.Canon(b)
		if w, e := iso.Witness(b); e != api.OK || !iso.Is(b, canon, w...) {
			t.Errorf("%s: Witness %d", x.name, e)
		}
	}
}

// roomy is l with room behind it, and something there that is nobody's to change.
func roomy[E any](l []E, behind E) []E {
	return append(slices.Clone(l), slices.Repeat([]E{behind}, 9)...)[:len(l)]
}

// roomyMesh is m with room behind its lists.
func roomyMesh(m api.Mesh) api.Mesh {
	return api.Mesh{P: roomy(m.P, api.Point{X: 700}), T: roomy(m.T, [3]int{800})}
}

// isRoomy tells whether l, and the room behind it, is what roomy made of given.
func isRoomy[E comparable](l, given []E, behind E) bool {
	n := len(given) + 9
	return slices.Equal(l[:n], roomy(given, behind)[:n])
}

func isRoomyMesh(m, given api.Mesh) bool {
	return isRoomy(m.P, given.P, api.Point{X: 700}) && isRoomy(m.T, given.T, [3]int{800})
}

// overwrite changes all of l, and all of the room behind it.
func overwrite[E any](l []E, with E) {
	for i := range l[:cap(l)] {
		l[:cap(l)][i] = with
	}
}

func overwriteMesh(m api.Mesh) {
	overwrite(m.P, api.Point{X: -7})
	overwrite(m.T, [3]int{-7, -7, -7})
}

// answers are what all calls tell of m and these numbers.
type answers struct {
	back    []int
	ok      bool
	renamed api.Mesh
	is      bool
	from    api.Mesh
	witness []int
	errs    [3]api.Errno
}

func answersOf(m api.Mesh, num []int) answers {
	var a answers
	a.back, a.ok = iso.Back(num...)
	a.renamed, a.errs[0] = iso.Renamed(m, num...)
	a.is = iso.Is(m, m, num...)
	a.from, a.errs[1] = iso.From(m, len(m.T)-1, 1)
	a.witness, a.errs[2] = iso.Witness(m)
	return a
}

// copied are these answers in memory of their own.
func (a answers) copied() answers {
	a.back, a.witness = slices.Clone(a.back), slices.Clone(a.witness)
	a.renamed, a.from = mesh.Copy(a.renamed), mesh.Copy(a.from)
	return a
}

func (a answers) same(b answers) bool {
	return a.ok == b.ok && a.is == b.is && a.errs == b.errs && slices.Equal(a.back, b.back) && slices.Equal(a.witness, b.witness) &&
		mesh.Same(a.renamed, b.renamed) && mesh.Same(a.from, b.from)
}

func (a answers) overwrite() {
	overwrite(a.back, -7)
	overwrite(a.witness, -7)
	overwriteMesh(a.renamed)
	overwriteMesh(a.from)
}

// given is a mesh, and numbers.
type given struct {
	m   api.Mesh
	num []int
}

// allGiven are surfaces by other numbers, by their own, and canons, whose answers could be the same memory; and what is refused.
func allGiven() []given {
	r := rand.New(rand.NewSource(143))
	var l []given
	for _, m := range surfaces() {
		c, _ := walk.Canon(m)
		l = append(l, given{m, r.Perm(len(m.P))}, given{m, numbers(len(m.P))}, given{c, numbers(len(m.P))}, given{m, numbers(len(m.P) + 1)})
	}
	for _, x := range wrong() {
		l = append(l, given{x.m, numbers(len(x.m.P))})
	}
	return l
}

// TestHandedIn has each call leave what is handed in as it was, in the room behind it too.
func TestHandedIn(t *testing.T) {
	for i, x := range allGiven() {
		m, b, num := roomyMesh(x.m), roomyMesh(x.m), roomy(x.num, 900)
		answersOf(m, num)
		iso.Is(m, b, num...)
		if !isRoomyMesh(m, x.m) || !isRoomyMesh(b, x.m) || !isRoomy(num, x.num, 900) {
			t.Errorf("%d: changed", i)
		}
	}
}

// TestHandedOut has all that comes out be changed, room and all: what was handed in, and what else came out, stays.
func TestHandedOut(t *testing.T) {
	for i, x := range allGiven() {
		m, num := roomyMesh(x.m), roomy(x.num, 900)
		first := answersOf(m, num)
		second := answersOf(m, num)
		want := first.copied()
		first.overwrite()
		if !isRoomyMesh(m, x.m) || !isRoomy(num, x.num, 900) {
			t.Errorf("%d: what was handed in is changed", i)
		}
		if !second.same(want) || !answersOf(m, num).same(want) {
			t.Errorf("%d: another answer is changed", i)
		}
	}
}

// TestListsOfOneAnswer has one of two lists that come out together be changed: the other one stays.
func TestListsOfOneAnswer(t *testing.T) {
	for i, x := range allGiven() {
		a := answersOf(x.m, x.num)
		want := a.copied()
		overwrite(a.renamed.P, api.Point{X: -7})
		overwrite(a.from.T, [3]int{-7})
		if !slices.Equal(a.renamed.T, want.renamed.T) || !slices.Equal(a.from.P, want.from.P) {
			t.Errorf("%d: changed", i)
		}
	}
}

// TestNotKept has what is handed in be changed behind a call: what it answered stays.
func TestNotKept(t *testing.T) {
	for i, x := range allGiven() {
		m, num := roomyMesh(x.m), roomy(x.num, 900)
		a := answersOf(m, num)
		want := a.copied()
		overwriteMesh(m)
		overwrite(num, -7)
		if !a.same(want) {
			t.Errorf("%d: changed", i)
		}
	}
}

// TestAgain has each call tell the same again, whatever was asked between.
func TestAgain(t *testing.T) {
	l := allGiven()
	var want []answers
	for _, x := range l {
		want = append(want, answersOf(x.m, x.num))
	}
	for i, x := range slices.Backward(l) {
		if !answersOf(x.m, x.num).same(want[i]) {
			t.Errorf("%d: other answers", i)
		}
	}
}

func TestExamples(t *testing.T) {
	if l, ok := iso.Back(2, 0, 1); !ok || !slices.Equal(l, []int{1, 2, 0}) {
		t.Error(l, ok)
	}
}
