package model

import (
	"math"
	"math/rand"
	"slices"
	"testing"

	"lapidary/api"
)

// byWords is the counts as the chapter words them: no sum is kept.
type byWords []int

func wordsOf(n int) byWords {
	w := make(byWords, n)
	for s := range w {
		w[s] = 1
	}
	return w
}

func (w byWords) total() int {
	sum := 0
	for _, c := range w {
		sum += c
	}
	return sum
}

// count tells whether the counts were halved.
func (w byWords) count(s int) bool {
	w[s] += 32
	if w.total() <= 8192 {
		return false
	}
	for i, c := range w {
		w[i] = (c + 1) / 2
	}
	return true
}

// sizes are some that models may have, edges among them.
var sizes = []int{1, 2, 3, 4, 5, 31, 32, 33, 64, 96, 127, 128, 129, 224, 225, 254, 255, 256}

// noSizes are some that no model has.
var noSizes = []int{0, -1, -2, -3, -256, -257, 257, 258, 512, 1 << 16, 1 << 30, math.MinInt32, math.MaxInt32, math.MinInt, math.MinInt + 1, math.MaxInt - 1, math.MaxInt}

// made is a model that must be.
func made(t *testing.T, n int) *Model {
	t.Helper()
	m, e := New(n)
	if m == nil || e != api.OK {
		t.Fatalf("New(%d): %v %d", n, m, e)
	}
	return m
}

// counted is a model of n symbols that counted l.
func counted(t *testing.T, n int, l ...int) *Model {
	t.Helper()
	m := made(t, n)
	if e := m.Count(l...); e != api.OK {
		t.Fatalf("Count(%v) of %d: %d", l, n, e)
	}
	return m
}

// none are numbers that are no symbols of a model of n.
func none(n int) []int {
	return []int{-1, -2, -32, n, n + 1, 256, 257, 1 << 20, math.MinInt32, math.MaxInt32, math.MinInt, math.MinInt + 1, math.MaxInt - 1, math.MaxInt}
}

// beyond are numbers that lie in no share of a model whose counts are so many.
func beyond(total int) []int {
	return []int{-1, -2, -total, total, total + 1, total + 255, 2 * total, 8225, 1 << 20, math.MinInt32, math.MaxInt32, math.MinInt, math.MinInt + 1, math.MaxInt - 1, math.MaxInt}
}

// is holds all that m tells of itself against its counts.
func is(t *testing.T, m *Model, counts ...int) {
	t.Helper()
	if m.Size() != len(counts) {
		t.Fatalf("Size: %d, not %d", m.Size(), len(counts))
	}
	from := 0
	for s, c := range counts {
		at, count, e := m.Share(s)
		if at != from || count != c || e != api.OK {
			t.Fatalf("Share(%d): %d %d %d, not %d %d", s, at, count, e, from, c)
		}
		from += c
	}
	if m.Total() != from {
		t.Fatalf("Total: %d, not %d", m.Total(), from)
	}
	refuses(t, m)
}

// finds asks for each place of each share.
func finds(t *testing.T, m *Model, counts ...int) {
	t.Helper()
	v := 0
	for s, c := range counts {
		for range c {
			if x, e := m.Find(v); x != s || e != api.OK {
				t.Fatalf("Find(%d): %d %d, not %d", v, x, e, s)
			}
			v++
		}
	}
}

// refuses asks for what m does not have.
func refuses(t *testing.T, m *Model) {
	t.Helper()
	for _, s := range none(m.Size()) {
		if from, count, e := m.Share(s); from != 0 || count != 0 || e != api.ErrArg {
			t.Fatalf("Share(%d) of %d: %d %d %d", s, m.Size(), from, count, e)
		}
	}
	for _, v := range beyond(m.Total()) {
		if s, e := m.Find(v); s != 0 || e != api.ErrArg {
			t.Fatalf("Find(%d) of %d: %d %d", v, m.Total(), s, e)
		}
	}
}

func TestExamples(t *testing.T) {
	m := made(t, 3)
	if e := m.Count(1); e != api.OK {
		t.Fatal(e)
	}
	for s, want := range []int{0, 1, 34} {
		if from, _, e := m.Share(s); from != want || e != api.OK {
			t.Errorf("Share(%d): %d %d, not %d", s, from, e, want)
		}
	}
	if m.Total() != 35 {
		t.Errorf("Total: %d", m.Total())
	}
	if s, e := m.Find(33); s != 1 || e != api.OK {
		t.Errorf("Find(33): %d %d", s, e)
	}
	is(t, m, 1, 33, 1)
	finds(t, m, 1, 33, 1)
}

func TestLimits(t *testing.T) {
	if api.MaxSyms != 256 || api.MaxTotal != 8192 {
		t.Fatal("these tests are of other limits")
	}
}

func TestNewOfEverySize(t *testing.T) {
	for n := 1; n <= 256; n++ {
		m := made(t, n)
		if m.Size() != n || m.Total() != n {
			t.Errorf("New(%d): Size %d, Total %d", n, m.Size(), m.Total())
		}
		is(t, m, wordsOf(n)...)
		finds(t, m, wordsOf(n)...)
	}
}

func TestNewOfNoSize(t *testing.T) {
	for _, n := range noSizes {
		if m, e := New(n); m != nil || e != api.ErrArg {
			t.Errorf("New(%d): %v %d", n, m, e)
		}
	}
}

func TestShareInWords(t *testing.T) {
	m := counted(t, 4, 2, 2, 0)
	for _, x := range []struct {
		s, from, count int
		e              api.Errno
	}{
		{0, 0, 33, api.OK},
		{1, 33, 1, api.OK},
		{2, 34, 65, api.OK},
		{3, 99, 1, api.OK},
		{4, 0, 0, api.ErrArg},
		{-1, 0, 0, api.ErrArg},
	} {
		if from, count, e := m.Share(x.s); from != x.from || count != x.count || e != x.e {
			t.Errorf("Share(%d): %d %d %d", x.s, from, count, e)
		}
	}
}

func TestShareOfNoSymbol(t *testing.T) {
	for _, n := range sizes {
		m := counted(t, n, 0, n-1, n/2)
		for _, s := range []int{-1, n} {
			if from, count, e := m.Share(s); from != 0 || count != 0 || e != api.ErrArg {
				t.Errorf("Share(%d) of %d: %d %d %d", s, n, from, count, e)
			}
		}
		refuses(t, m)
	}
}

func TestFindAtTheEdges(t *testing.T) {
	m := counted(t, 4, 2, 2, 0)
	for _, x := range []struct {
		v, s int
		e    api.Errno
	}{
		{0, 0, api.OK},
		{1, 0, api.OK},
		{32, 0, api.OK},
		{33, 1, api.OK},
		{34, 2, api.OK},
		{98, 2, api.OK},
		{99, 3, api.OK},
		{100, 0, api.ErrArg},
		{101, 0, api.ErrArg},
		{-1, 0, api.ErrArg},
	} {
		if s, e := m.Find(x.v); s != x.s || e != x.e {
			t.Errorf("Find(%d): %d %d", x.v, s, e)
		}
	}
}

func TestFindOfEveryPlace(t *testing.T) {
	r := rand.New(rand.NewSource(5))
	for _, n := range sizes {
		m, w := made(t, n), wordsOf(n)
		for range 4 {
			for range 100 {
				s := r.Intn(n)
				m.Count(s)
				w.count(s)
			}
			is(t, m, w...)
			finds(t, m, w...)
		}
	}
}

// What Share tells and what Find tells is one thing, whatever the counts are.
func TestSharesLieSideBySide(t *testing.T) {
	r := rand.New(rand.NewSource(55))
	for _, n := range sizes {
		m := made(t, n)
		for range 30 {
			for range r.Intn(60) {
				m.Count(r.Intn(1 + r.Intn(n)))
			}
			end := 0
			for s := range n {
				from, count, e := m.Share(s)
				if from != end || count < 1 || e != api.OK {
					t.Fatalf("%d of %d: %d %d %d, behind %d", s, n, from, count, e, end)
				}
				end = from + count
				for _, v := range []int{from, from + count/2, end - 1} {
					if x, e := m.Find(v); x != s || e != api.OK {
						t.Fatalf("Find(%d) of %d: %d %d, not %d", v, n, x, e, s)
					}
				}
			}
			if end != m.Total() || end > 8192 {
				t.Fatalf("%d: %d, Total %d", n, end, m.Total())
			}
		}
	}
}

func TestCountOfNothing(t *testing.T) {
	for _, n := range sizes {
		m := made(t, n)
		for _, l := range [][]int{nil, {}} {
			if e := m.Count(l...); e != api.OK {
				t.Errorf("Count(%v): %d", l, e)
			}
		}
		if e := m.Count(); e != api.OK {
			t.Errorf("Count(): %d", e)
		}
		is(t, m, wordsOf(n)...)
	}
	// Nor are counts that stand at the greatest Total halved by it.
	m := counted(t, 32, make([]int, 255)...)
	if e := m.Count(); e != api.OK || m.Total() != 8192 {
		t.Errorf("Count(): %d, Total %d", e, m.Total())
	}
}

func TestCountOfOne(t *testing.T) {
	for _, n := range sizes {
		for s := range n {
			m, w := counted(t, n, s), wordsOf(n)
			w[s] = 33
			is(t, m, w...)
		}
	}
}

func TestCountOfSeveral(t *testing.T) {
	for _, x := range []struct {
		l    []int
		want []int
	}{
		{[]int{0, 1, 2}, []int{33, 33, 33}},
		{[]int{2, 1, 0}, []int{33, 33, 33}},
		{[]int{1, 1, 1}, []int{1, 97, 1}},
		{[]int{2, 0, 2, 2}, []int{33, 1, 97}},
		{[]int{0, 0}, []int{65, 1, 1}},
	} {
		is(t, counted(t, 3, x.l...), x.want...)
		one := made(t, 3)
		for _, s := range x.l {
			if e := one.Count(s); e != api.OK {
				t.Errorf("Count(%d): %d", s, e)
			}
		}
		is(t, one, x.want...)
	}
}

// cut is l in pieces of whatever size, some of them empty.
func cut(r *rand.Rand, l []int) [][]int {
	var pieces [][]int
	for len(l) > 0 {
		n := min(r.Intn(200), len(l))
		pieces = append(pieces, l[:n])
		l = l[n:]
	}
	return append(pieces, nil)
}

func TestCountInOneCallAndInMany(t *testing.T) {
	r := rand.New(rand.NewSource(555))
	for _, n := range sizes {
		l := make([]int, 2000)
		for i := range l {
			l[i] = r.Intn(n)
		}
		w := wordsOf(n)
		for _, s := range l {
			w.count(s)
		}
		is(t, counted(t, n, l...), w...)
		for range 3 {
			m := made(t, n)
			for _, piece := range cut(r, l) {
				if e := m.Count(piece...); e != api.OK {
					t.Fatalf("Count of %d: %d", len(piece), e)
				}
			}
			is(t, m, w...)
		}
	}
}

func TestCountOfNoSymbolChangesNothing(t *testing.T) {
	for _, n := range sizes {
		m, w := counted(t, n, 0, n-1), wordsOf(n)
		w[0] += 32
		w[n-1] += 32
		for _, s := range none(n) {
			many := make([]int, 600)
			many[599] = s
			for _, l := range [][]int{{s}, {s, 0}, {0, s}, {0, s, n - 1}, {s, s}, {n - 1, 0, n - 1, s}, many} {
				if e := m.Count(l...); e != api.ErrArg {
					t.Fatalf("Count(%v) of %d: %d", l, n, e)
				}
				is(t, m, w...)
			}
		}
		if e := m.Count(0); e != api.OK {
			t.Errorf("Count(0) behind a wrong one: %d", e)
		}
		w[0] += 32
		is(t, m, w...)
	}
}

func TestTotalAtTheGreatestIsNotHalved(t *testing.T) {
	for _, x := range []struct{ n, times int }{{32, 255}, {64, 254}, {96, 253}, {128, 252}, {224, 249}, {256, 248}} {
		m, w := made(t, x.n), wordsOf(x.n)
		for i := range x.times {
			if e := m.Count(x.n - 1); e != api.OK || m.Total() != x.n+32*(i+1) {
				t.Fatalf("%d times of %d: %d, Total %d", i+1, x.n, e, m.Total())
			}
		}
		w[x.n-1] = 1 + 32*x.times
		if m.Total() != 8192 {
			t.Fatalf("%d times of %d: Total %d", x.times, x.n, m.Total())
		}
		is(t, m, w...)
		finds(t, m, w...)
		// The next symbol is counted ahead of the halving: 33 become 17, and ones stay.
		m.Count(0)
		w[x.n-1] = (1 + 32*x.times + 1) / 2
		w[0] = 17
		is(t, m, w...)
		finds(t, m, w...)
	}
}

func TestTotalOneMoreIsHalved(t *testing.T) {
	for _, x := range []struct{ n, times int }{{1, 256}, {33, 255}, {65, 254}, {97, 253}, {129, 252}, {225, 249}} {
		m, w := made(t, x.n), wordsOf(x.n)
		for range x.times - 1 {
			m.Count(0)
		}
		w[0] = 1 + 32*(x.times-1)
		if m.Total() != 8193-32 {
			t.Fatalf("%d times of %d: Total %d", x.times-1, x.n, m.Total())
		}
		is(t, m, w...)
		m.Count(0)
		w[0] = (8193 - (x.n - 1) + 1) / 2
		is(t, m, w...)
		finds(t, m, w...)
	}
}

func TestTotalNearTheGreatest(t *testing.T) {
	for _, x := range []struct {
		n, times int
		count    int // of the symbol that came so often
	}{
		{2, 255, 8161},
		{2, 256, 4097},
		{31, 255, 8161},
		{31, 256, 4097},
		{34, 254, 8129},
		{34, 255, 4081},
		{255, 248, 7937},
		{255, 249, 3985},
	} {
		m, w := made(t, x.n), wordsOf(x.n)
		for range x.times {
			m.Count(1)
		}
		w[1] = x.count
		is(t, m, w...)
	}
}

func TestCountsAreHalvedAndRoundedUp(t *testing.T) {
	// Of 4 symbols: 1, 33, 65, and so many of the last that Total is above 8192: 252 times 32.
	l := []int{1, 2, 2}
	for range 252 {
		l = append(l, 3)
	}
	is(t, counted(t, 4, l...), 1, 33, 65, 8065)
	is(t, counted(t, 4, append(l, 3)...), 1, 17, 33, 4049)
	is(t, counted(t, 4, append(l, 0)...), 17, 17, 33, 4033)
	is(t, counted(t, 4, append(l, 0, 0, 1)...), 49, 49, 33, 4033)
	// A halving leaves even counts too: by them the next one is seen to take no more than the half.
	m, w := made(t, 2), wordsOf(2)
	even := 0
	for range 40 {
		for !w.count(1) {
			m.Count(1)
		}
		m.Count(1)
		is(t, m, w...)
		m.Count(0)
		w.count(0)
		if w[0]%2 == 0 || w[1]%2 == 0 {
			even++
		}
		is(t, m, w...)
	}
	if even == 0 {
		t.Error("no count was even")
	}
}

func TestCountGoesOnBehindAHalving(t *testing.T) {
	l := make([]int, 256)
	m := counted(t, 1, l...)
	is(t, m, 4097)
	is(t, counted(t, 1, append(l, 0)...), 4129)
	is(t, counted(t, 1, append(l, 0, 0, 0)...), 4193)
	// 127 more make 8161, 128 more 8193, and this is halved again.
	is(t, counted(t, 1, make([]int, 256+127)...), 8161)
	is(t, counted(t, 1, make([]int, 256+128)...), 4097)
	is(t, counted(t, 1, make([]int, 256+129)...), 4129)
	is(t, counted(t, 1, make([]int, 256+2*128)...), 4097)
}

func TestHalvedAgainAndAgain(t *testing.T) {
	r := rand.New(rand.NewSource(5555))
	for _, n := range sizes {
		m, w := made(t, n), wordsOf(n)
		halved := 0
		for halved < 12 {
			s := r.Intn(1 + r.Intn(n))
			if e := m.Count(s); e != api.OK {
				t.Fatalf("Count(%d) of %d: %d", s, n, e)
			}
			h := w.count(s)
			if m.Total() != w.total() || m.Total() > 8192 {
				t.Fatalf("%d: Total %d, not %d", n, m.Total(), w.total())
			}
			if h {
				halved++
				is(t, m, w...)
				finds(t, m, w...)
			}
		}
	}
}

// Where one symbol alone comes, the others' counts come down to 1, and no further.
func TestOneSymbolForEver(t *testing.T) {
	for _, n := range sizes {
		l := make([]int, 0, 1000)
		for i := range 1000 {
			l = append(l, i%n)
		}
		m := counted(t, n, l...)
		if e := m.Count(make([]int, 1<<16)...); e != api.OK {
			t.Fatal(e)
		}
		for s := 1; s < n; s++ {
			if _, count, e := m.Share(s); count != 1 || e != api.OK {
				t.Fatalf("%d of %d: %d %d", s, n, count, e)
			}
		}
		if m.Total() > 8192 || m.Total() <= 4096 {
			t.Errorf("%d: Total %d", n, m.Total())
		}
	}
}

func TestManySymbolsInOneCall(t *testing.T) {
	l := make([]int, 1<<22)
	for i := range l {
		l[i] = i * 7 % 256
	}
	m, w := made(t, 256), wordsOf(256)
	for part := range slices.Chunk(l, 1000) {
		m.Count(part...)
	}
	for s := range w {
		_, w[s], _ = m.Share(s)
	}
	is(t, counted(t, 256, l...), w...)
}

func TestAskingChangesNothing(t *testing.T) {
	m := counted(t, 5, 0, 1, 1, 4)
	for range 3 {
		is(t, m, 33, 65, 1, 1, 33)
		finds(t, m, 33, 65, 1, 1, 33)
	}
	m.Count(2)
	is(t, m, 33, 65, 33, 1, 33)
}

func TestModelsKnowNothingOfOneAnother(t *testing.T) {
	one, two, other := made(t, 3), made(t, 3), made(t, 256)
	if one == two {
		t.Fatal("New answers one model twice")
	}
	one.Count(0, 0)
	is(t, one, 65, 1, 1)
	is(t, two, 1, 1, 1)
	is(t, other, wordsOf(256)...)
	two.Count(2)
	for range 300 {
		other.Count(1)
	}
	two.Count(3)
	is(t, one, 65, 1, 1)
	is(t, two, 1, 1, 33)
	one.Count(1)
	is(t, two, 1, 1, 33)
	is(t, one, 65, 33, 1)
	is(t, made(t, 3), 1, 1, 1)
}

func TestCopyCountsByItself(t *testing.T) {
	m := counted(t, 3, 1)
	c := *m
	m.Count(0)
	c.Count(2, 2)
	is(t, m, 33, 33, 1)
	is(t, &c, 1, 33, 65)
}

func TestNilModel(t *testing.T) {
	var m *Model
	if m.Size() != 0 || m.Total() != 0 {
		t.Errorf("Size %d, Total %d", m.Size(), m.Total())
	}
	for _, x := range []int{0, 1, -1, 255, 256, math.MinInt, math.MaxInt} {
		if from, count, e := m.Share(x); from != 0 || count != 0 || e != api.ErrNil {
			t.Errorf("Share(%d): %d %d %d", x, from, count, e)
		}
		if s, e := m.Find(x); s != 0 || e != api.ErrNil {
			t.Errorf("Find(%d): %d %d", x, s, e)
		}
		for _, l := range [][]int{nil, {}, {x}, {0, x}, {x, 0, 1}} {
			if e := m.Count(l...); e != api.ErrNil {
				t.Errorf("Count(%v): %d", l, e)
			}
		}
	}
	if e := m.Count(); e != api.ErrNil {
		t.Errorf("Count(): %d", e)
	}
}

// A Model that New did not make has no symbol, and does not panic either.
func TestZeroModel(t *testing.T) {
	var m Model
	for range 2 {
		is(t, &m)
		for _, x := range []int{0, 1, -1, 255, 256, math.MinInt, math.MaxInt} {
			if from, count, e := m.Share(x); from != 0 || count != 0 || e != api.ErrArg {
				t.Errorf("Share(%d): %d %d %d", x, from, count, e)
			}
			if s, e := m.Find(x); s != 0 || e != api.ErrArg {
				t.Errorf("Find(%d): %d %d", x, s, e)
			}
			if e := m.Count(x); e != api.ErrArg {
				t.Errorf("Count(%d): %d", x, e)
			}
		}
		if e := m.Count(); e != api.OK {
			t.Errorf("Count(): %d", e)
		}
	}
}

func TestWhatIsHandedInStays(t *testing.T) {
	room := []int{2, 0, 1, 2, 2, -1, 3, 7, 9}
	was := slices.Clone(room)
	m := made(t, 3)
	for to := range len(room) + 1 {
		m.Count(room[:to]...)
		if !slices.Equal(room, was) {
			t.Fatalf("changed %v to %v", was, room)
		}
	}
	many := make([]int, 3000)
	for i := range many {
		many[i] = i % 3
	}
	was = slices.Clone(many)
	m.Count(many...)
	if !slices.Equal(many, was) {
		t.Error("changed a list behind which counts were halved")
	}
}

func TestWhatIsHandedInIsNotKept(t *testing.T) {
	l := []int{0, 1, 1}
	m := counted(t, 3, l...)
	l[0], l[1], l[2] = 2, -5, 300
	is(t, m, 33, 65, 1)
	if e := m.Count(2); e != api.OK {
		t.Errorf("Count(2): %d", e)
	}
	is(t, m, 33, 65, 33)
}

// Nothing behind a list's end is counted, nor looked at.
func TestRoomBehindIsNotCounted(t *testing.T) {
	room := []int{0, 1, 2, -1}
	m := counted(t, 3, room[:1]...)
	is(t, m, 33, 1, 1)
	m = counted(t, 3, room[1:3]...)
	is(t, m, 1, 33, 33)
}

func TestErrorsAreToldFirstThingFirst(t *testing.T) {
	var no *Model
	if _, _, e := no.Share(-1); e != api.ErrNil {
		t.Errorf("Share: %d", e)
	}
	if _, e := no.Find(-1); e != api.ErrNil {
		t.Errorf("Find: %d", e)
	}
	if e := no.Count(-1); e != api.ErrNil {
		t.Errorf("Count: %d", e)
	}
	if api.ErrNil != 1 || api.ErrArg != 2 {
		t.Error("the errors have other numbers")
	}
}

// Any numbers at all, in any order: the words and the model tell the same.
func TestAnyInput(t *testing.T) {
	r := rand.New(rand.NewSource(50))
	for range 200 {
		n := 1 + r.Intn(256)
		m, w := made(t, n), wordsOf(n)
		for range 100 {
			l := make([]int, r.Intn(12))
			wrong := false
			for i := range l {
				l[i] = r.Intn(n)
				if r.Intn(60) == 0 {
					l[i] = none(n)[r.Intn(3)]
					wrong = true
				}
			}
			want := api.OK
			if wrong {
				want = api.ErrArg
			}
			if e := m.Count(l...); e != want {
				t.Fatalf("Count(%v) of %d: %d, not %d", l, n, e, want)
			}
			for _, s := range l {
				if !wrong {
					w.count(s)
				}
			}
		}
		is(t, m, w...)
		finds(t, m, w...)
	}
}

// Every row of few symbols of small models, with wrong ones among them.
func TestEveryShortRow(t *testing.T) {
	for n := 1; n <= 3; n++ {
		rows := [][]int{nil}
		for len(rows) > 0 {
			l := rows[0]
			rows = rows[1:]
			m, w := made(t, n), wordsOf(n)
			e := m.Count(l...)
			if slices.Min(append(l, 0)) < 0 || slices.Max(append(l, 0)) >= n {
				if e != api.ErrArg {
					t.Fatalf("Count(%v) of %d: %d", l, n, e)
				}
			} else {
				if e != api.OK {
					t.Fatalf("Count(%v) of %d: %d", l, n, e)
				}
				for _, s := range l {
					w.count(s)
				}
			}
			is(t, m, w...)
			finds(t, m, w...)
			if len(l) < 4 {
				for s := -1; s <= n; s++ {
					rows = append(rows, append(slices.Clone(l), s))
				}
			}
		}
	}
}
