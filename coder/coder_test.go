package coder

import (
	"bytes"
	"fmt"
	"math"
	"math/big"
	"math/rand"
	"runtime"
	"slices"
	"sync"
	"testing"

	"lapidary/api"
)

// noSizes are some that no model has.
var noSizes = []int{0, -1, -2, -256, 257, 258, 512, 1 << 16, math.MinInt32, math.MaxInt32, math.MinInt, math.MaxInt}

// noModels are names that are none beside so many models.
func noModels(n int) []int {
	return []int{n, n + 1, 16, 17, 255, 1 << 16, -17, -18, -32, -33, -64, -65, math.MinInt32, math.MaxInt32, math.MinInt, math.MinInt + 1, math.MinInt + 16, math.MaxInt}
}

// noSyms are numbers that are none of so many symbols.
func noSyms(n int) []int {
	return []int{-1, -2, -n, n, n + 1, 2 * n, 1 << 17, math.MinInt32, math.MaxInt32, math.MinInt, math.MaxInt}
}

// plain is one code of so many bits.
func plain(bits, sym int) api.Code {
	return api.Code{Model: -bits, Sym: sym}
}

// nothing is bytes too few for any models.
var nothing = [][]byte{nil, {}, {0}, {0, 0}, {0, 0, 0}, {0, 0, 0, 0}}

func TestLimits(t *testing.T) {
	if api.MaxSyms != 256 || api.MaxTotal != 8192 || api.MaxCodes != 65536 {
		t.Fatal("these tests are of other limits")
	}
	if api.ErrArg != 2 || api.ErrLong != 3 || api.ErrForm != 11 {
		t.Error("the errors have other numbers")
	}
}

func TestExamples(t *testing.T) {
	for _, sizes := range [][]int{nil, {}, {1}, {256, 3}} {
		if b, e := Encode(sizes); e != api.OK || !bytes.Equal(b, make([]byte, 5)) {
			t.Errorf("Encode of nothing: % x %d", b, e)
		}
	}
	if b, e := Pack([]byte{0}); e != api.OK || !bytes.Equal(b, make([]byte, 6)) {
		t.Errorf("Pack of 00: % x %d", b, e)
	}
}

// Numbers that were reckoned by hand.
func TestBytesInWords(t *testing.T) {
	for _, x := range []struct {
		sizes []int
		l     []api.Code
		want  []byte
	}{
		{nil, []api.Code{plain(8, 1)}, []byte{0, 0, 0xff, 0xff, 0xff, 0}},
		{nil, []api.Code{plain(1, 0)}, []byte{0, 0, 0, 0, 0}},
		{nil, []api.Code{plain(1, 1)}, []byte{0, 0x7f, 0xff, 0xff, 0xff}},
		{nil, []api.Code{plain(16, 1)}, []byte{0, 0, 0, 0xff, 0xff, 0, 0}},
		{nil, []api.Code{plain(16, 65535)}, []byte{0, 0xff, 0xfe, 0, 1, 0, 0}},
		{[]int{3}, []api.Code{{Sym: 1}}, []byte{0, 0x55, 0x55, 0x55, 0x55}},
		{[]int{3}, []api.Code{{Sym: 2}}, []byte{0, 0xaa, 0xaa, 0xaa, 0xaa}},
		// Of R 55555555 the whole is 35 now, a part 02702702, and the shares begin at 0, 1 and 34.
		{[]int{3}, []api.Code{{Sym: 1}, {Sym: 1}}, []byte{0, 0x57, 0xc5, 0x7c, 0x57}},
		{[]int{1}, []api.Code{{}, {}, {}}, []byte{0, 0, 0, 0, 0}},
	} {
		if b := holds(t, x.sizes, x.l...); !bytes.Equal(b, x.want) {
			t.Errorf("%v %v: % x", x.sizes, x.l, b)
		}
	}
}

func TestNoSizesAndNoCodes(t *testing.T) {
	five := make([]byte, 5)
	for _, sizes := range [][]int{nil, {}} {
		for _, l := range [][]api.Code{nil, {}} {
			if b, e := Encode(sizes, l...); e != api.OK || !bytes.Equal(b, five) {
				t.Errorf("% x %d", b, e)
			}
		}
		for _, models := range [][]int{nil, {}} {
			if l, e := Decode(sizes, models, five); e != api.OK || len(l) != 0 {
				t.Errorf("%v %d", l, e)
			}
			for _, b := range nothing {
				l, e := Decode(sizes, models, b)
				unread(t, fmt.Sprintf("% x", b), l, e, api.ErrForm)
			}
		}
		for _, m := range []int{0, 1, -17} {
			b, e := Encode(sizes, api.Code{Model: m})
			refused(t, "a code of no sizes", b, e, api.ErrArg)
			l, e := Decode(sizes, []int{m}, five)
			unread(t, "a model of no sizes", l, e, api.ErrArg)
		}
		holds(t, sizes, plain(5, 30), plain(16, 2), plain(1, 1))
	}
}

func TestEachSizeThatMayBe(t *testing.T) {
	for n := 1; n <= 256; n++ {
		for _, s := range []int{0, n / 2, n - 1} {
			holds(t, []int{n}, api.Code{Sym: s}, api.Code{Sym: n - 1}, api.Code{Sym: s})
		}
		for _, s := range noSyms(n) {
			b, e := Encode([]int{n}, api.Code{Sym: s})
			refused(t, fmt.Sprintf("%d of %d", s, n), b, e, api.ErrArg)
		}
	}
}

func TestSizesThatMayNotBe(t *testing.T) {
	for _, n := range noSizes {
		for _, sizes := range [][]int{{n}, {3, n}, {n, 3}, {256, n, 1}, append(slices.Repeat([]int{2}, 15), n)} {
			b, e := Encode(sizes)
			refused(t, fmt.Sprintf("no codes of %v", sizes), b, e, api.ErrArg)
			b, e = Encode(sizes, plain(1, 0))
			refused(t, fmt.Sprintf("a plain code beside %v", sizes), b, e, api.ErrArg)
			l, e := Decode(sizes, nil, make([]byte, 5))
			unread(t, fmt.Sprintf("no models of %v", sizes), l, e, api.ErrArg)
			l, e = Decode(sizes, []int{-1}, make([]byte, 5))
			unread(t, fmt.Sprintf("a plain model beside %v", sizes), l, e, api.ErrArg)
		}
	}
}

func TestSixteenSizesAndMore(t *testing.T) {
	sizes := make([]int, 16)
	var all []api.Code
	for i := range sizes {
		sizes[i] = 256 - 17*i
		all = append(all, api.Code{Model: i, Sym: sizes[i] - 1}, api.Code{Model: i, Sym: i}, api.Code{Model: i})
	}
	if sizes[15] != 1 {
		t.Fatal(sizes)
	}
	all[46].Sym = 0 // as the last one has one symbol alone
	holds(t, sizes, all...)
	slices.Reverse(all)
	holds(t, sizes, all...)
	for _, n := range []int{17, 18, 32, 33, 256, 257, 1 << 16, 1<<16 + 16} {
		many := slices.Repeat([]int{2}, n)
		b, e := Encode(many)
		refused(t, fmt.Sprintf("%d sizes", n), b, e, api.ErrArg)
		b, e = Encode(many, api.Code{Model: n - 1})
		refused(t, fmt.Sprintf("%d sizes", n), b, e, api.ErrArg)
		l, e := Decode(many, nil, make([]byte, 5))
		unread(t, fmt.Sprintf("%d sizes", n), l, e, api.ErrArg)
		l, e = Decode(many, []int{0}, make([]byte, 5))
		unread(t, fmt.Sprintf("%d sizes", n), l, e, api.ErrArg)
	}
}

func TestModelsThatAreNone(t *testing.T) {
	for n := range 17 {
		sizes := slices.Repeat([]int{5}, n)
		for _, m := range noModels(n) {
			if m >= 0 && m < n {
				continue
			}
			for _, s := range []int{0, 1, -1, math.MinInt, math.MaxInt} {
				c := api.Code{Model: m, Sym: s}
				for _, l := range [][]api.Code{{c}, {plain(1, 1), c}, {c, plain(1, 1)}, {plain(2, 2), c, plain(3, 3)}} {
					b, e := Encode(sizes, l...)
					refused(t, fmt.Sprintf("%v of %d", l, n), b, e, api.ErrArg)
				}
			}
			for _, l := range [][]int{{m}, {-1, m}, {m, -1}, {-1, m, -1}} {
				for _, b := range [][]byte{nil, make([]byte, 5), make([]byte, 50), {1, 2, 3, 4, 5}} {
					codes, e := Decode(sizes, l, b)
					unread(t, fmt.Sprintf("%v of %d", l, n), codes, e, api.ErrArg)
				}
			}
		}
		for m := -16; m < n; m++ {
			holds(t, sizes, api.Code{Model: m})
			holds(t, sizes, api.Code{Model: m, Sym: 1})
		}
	}
}

func TestSymsThatAreNone(t *testing.T) {
	sizes := []int{1, 2, 7, 255, 256}
	for m := -16; m < len(sizes); m++ {
		n := 1 << max(-m, 0)
		if m >= 0 {
			n = sizes[m]
		}
		for _, s := range noSyms(n) {
			c := api.Code{Model: m, Sym: s}
			for _, l := range [][]api.Code{{c}, {plain(1, 1), c}, {c, {Model: 1}}, {{}, c, {}}, {c, c}} {
				b, e := Encode(sizes, l...)
				refused(t, fmt.Sprint(l), b, e, api.ErrArg)
			}
		}
		for _, s := range []int{0, n / 2, n - 1} {
			holds(t, sizes, api.Code{Model: m, Sym: s})
		}
	}
}

func TestPlainCodes(t *testing.T) {
	for bits := 1; bits <= 16; bits++ {
		top := 1<<bits - 1
		for _, s := range []int{0, 1, top / 2, top/2 + 1, top - 1, top} {
			holds(t, nil, plain(bits, s))
			holds(t, nil, plain(bits, s), plain(bits, s), plain(bits, top), plain(bits, 0), plain(bits, s))
			holds(t, []int{256, 2}, api.Code{Sym: 77}, plain(bits, s), api.Code{Model: 1, Sym: 1}, plain(bits, top-s))
		}
		for _, s := range []int{-1, top + 1, top + 2, 1 << 20} {
			b, e := Encode(nil, plain(bits, s))
			refused(t, fmt.Sprintf("%d of %d bits", s, bits), b, e, api.ErrArg)
		}
	}
	for s := range 1 << 10 {
		holds(t, nil, plain(10, s))
	}
}

// Plain codes are counted nowhere: neither do they change a model, nor the next plain one.
func TestPlainCodesAreNotCounted(t *testing.T) {
	one := holds(t, nil, slices.Repeat([]api.Code{plain(3, 5)}, 600)...)
	l := slices.Repeat([]api.Code{plain(3, 5)}, 600)
	l[599] = plain(3, 4)
	if two := holds(t, nil, l...); len(one) != len(two) || len(one) < 600*3/8 {
		t.Errorf("%d and %d bytes", len(one), len(two))
	}
}

// greatest is MaxCodes codes of every kind.
func greatest(sizes []int) []api.Code {
	return randomCodes(rand.New(rand.NewSource(6)), sizes, 65536)
}

func TestMaxCodesAndOneMore(t *testing.T) {
	sizes := []int{256, 1, 2, 30}
	l := greatest(sizes)
	b := holds(t, sizes, l...)
	l = append(l, plain(1, 0))
	no, e := Encode(sizes, l...)
	refused(t, "one more than MaxCodes", no, e, api.ErrLong)
	codes, e := Decode(sizes, modelsIn(l), b)
	unread(t, "one more than MaxCodes", codes, e, api.ErrLong)
	codes, e = Decode(sizes, modelsIn(l), nil)
	unread(t, "one more than MaxCodes, of no bytes", codes, e, api.ErrLong)
	for _, n := range []int{65537, 65538, 1 << 17, 1<<17 + 5} {
		no, e = Encode([]int{1}, make([]api.Code, n)...)
		refused(t, fmt.Sprintf("%d codes of one symbol", n), no, e, api.ErrLong)
		codes, e = Decode([]int{1}, make([]int, n), make([]byte, 5))
		unread(t, fmt.Sprintf("%d models of one symbol", n), codes, e, api.ErrLong)
	}
	holds(t, []int{1}, make([]api.Code, 65536)...)
	holds(t, nil, slices.Repeat([]api.Code{plain(16, 65535)}, 65536)...)
}

func TestArgGoesAheadOfLong(t *testing.T) {
	l := make([]api.Code, 65537)
	models := make([]int, 65537)
	for _, at := range []int{0, 1, 65535, 65536} {
		for _, c := range []api.Code{{Model: 1}, {Model: -17}, {Sym: 3}, {Sym: -1}, {Model: math.MinInt}} {
			l[at] = c
			b, e := Encode([]int{3}, l...)
			refused(t, fmt.Sprintf("%v at %d", c, at), b, e, api.ErrArg)
			l[at] = api.Code{}
			if c.Model != 0 {
				models[at] = c.Model
				codes, e := Decode([]int{3}, models, nil)
				unread(t, fmt.Sprintf("%v at %d", c, at), codes, e, api.ErrArg)
				models[at] = 0
			}
		}
	}
	for _, sizes := range [][]int{{0}, {3, 257}, make([]int, 17), slices.Repeat([]int{3}, 17)} {
		b, e := Encode(sizes, l...)
		refused(t, fmt.Sprint(sizes), b, e, api.ErrArg)
		codes, e := Decode(sizes, models, nil)
		unread(t, fmt.Sprint(sizes), codes, e, api.ErrArg)
	}
	b, e := Encode([]int{3}, l...)
	refused(t, "all of them may be", b, e, api.ErrLong)
	codes, e := Decode([]int{3}, models, []byte{1})
	unread(t, "all of them may be", codes, e, api.ErrLong)
}

// near is codes with these models by which N stays just below a goal, and those by which the last one goes beyond it.
func near(t *testing.T, sizes, models []int, goal ...byte) (below, beyond []api.Code) {
	t.Helper()
	below = toward(sizes, models, goal)
	last := len(below) - 1
	beyond = slices.Clone(below)
	beyond[last].Sym++
	if len(below) != len(models) {
		t.Fatalf("%d codes of %d lead to % x", len(below), len(models), goal)
	}
	return below, beyond
}

// carries holds that N stays below the goal by one row of codes, all its digits being 255, and goes beyond it by the
// other, all of them being 0: so many of them.
func carries(t *testing.T, sizes, models []int, digits int, goal ...byte) {
	t.Helper()
	below, beyond := near(t, sizes, models, goal...)
	b := holds(t, sizes, below...)
	from := len(goal)
	if !bytes.Equal(b[from:from+digits], bytes.Repeat([]byte{255}, digits)) || b[from-1] != goal[from-1]-1 {
		t.Errorf("no row of 255 below % x: % x", goal, b[:20])
	}
	b = holds(t, sizes, beyond...)
	if !bytes.Equal(b[:from], goal) || !bytes.Equal(b[from:from+digits], make([]byte, digits)) {
		t.Errorf("no row of 0 beyond % x: % x", goal, b[:20])
	}
}

func TestCarryThroughManyDigits(t *testing.T) {
	for _, n := range []int{3, 10, 100, 2000, 20000} {
		carries(t, nil, slices.Repeat([]int{-16}, n), 2*n-3, 0, 0x80)
	}
	carries(t, nil, slices.Repeat([]int{-8}, 3000), 2900, 0, 0x55, 0x55)
	carries(t, nil, slices.Repeat([]int{-13}, 2000), 3000, 0, 0x34, 0x12, 0x78)
	carries(t, nil, slices.Repeat([]int{-16, -9, -12}, 500), 2000, 0, 1)
	carries(t, nil, slices.Repeat([]int{-16, -16, -3}, 500), 2000, 0, 0xff)
	carries(t, []int{256}, append(make([]int, 300), -16), 50, 0, 0x35)
	carries(t, []int{256, 2, 9}, append(slices.Repeat([]int{0, -5, 1, 2, -12}, 400), -16), 900, 0, 0x77, 0x77)
}

// round is digits in the middle of R, with noughts behind the first ones of R.
func round(w *byWords) []byte {
	n := new(big.Int).Add(w.n, new(big.Int).SetUint64(w.r/2))
	return n.Lsh(n.Rsh(n, 20), 20).FillBytes(make([]byte, w.digits))
}

// One carry comes behind the other, in one row: what was carried through is done with.
func TestCarryAndOn(t *testing.T) {
	r := rand.New(rand.NewSource(66))
	sizes := []int{256, 2}
	carried, not := 0, 0
	var l []api.Code
	for range 60 {
		l = append(l, randomCodes(r, sizes, r.Intn(4))...)
		goal := round(said(sizes, l))
		below, beyond := near(t, sizes, append(modelsIn(l), slices.Repeat([]int{-16}, 2+r.Intn(30))...), goal...)
		if !slices.Equal(below[:len(l)], l) {
			t.Fatal("the goal is not in R")
		}
		l = [][]api.Code{below, beyond}[r.Intn(2)]
		switch b := holds(t, sizes, l...); {
		case bytes.Equal(b[:len(goal)], goal):
			carried++
		case bytes.Compare(b, goal) < 0:
			not++
		}
	}
	if carried < 20 || not < 20 {
		t.Errorf("carried %d times, and %d times not", carried, not)
	}
}

// A carry comes while the highest digit held back is 255 itself.
func TestCarryBesideA255(t *testing.T) {
	for _, sym := range []int{1, 2, 0x7f, 0x80, 0xff} {
		for _, more := range []int{65535, 65534, 65500, 0x8000, 1, 0} {
			b := holds(t, nil, plain(8, sym), plain(16, more))
			holds(t, nil, plain(8, sym), plain(16, more), plain(16, more), plain(8, sym))
			if more == 65535 && (b[1] != byte(sym) || b[2] != 0xff) {
				t.Errorf("no carry beside a 255: % x", b)
			}
		}
	}
}

// Just at 2^24 no digit comes, just below one does, and far below a second one, if R is not at 2^24 by the first.
func TestWhereDigitsCome(t *testing.T) {
	for _, x := range []struct {
		sizes, models []int
		end, then     uint64 // R of the last code, and what digits make of it
	}{
		{[]int{78, 105}, []int{0, -14, -5, 1}, 1 << 24, 1 << 24},
		{[]int{39, 210}, []int{0, 1, -16, -3}, 1 << 24, 1 << 24},
		{[]int{252, 65}, []int{0, -15, -3, 1}, 1 << 24, 1 << 24},
		{[]int{255}, []int{0}, 16843009, 16843009},
		{nil, []int{-7}, 1<<25 - 1, 1<<25 - 1},
		{[]int{256}, []int{0}, 1<<24 - 1, 1<<32 - 256},
		{nil, []int{-8}, 1<<24 - 1, 1<<32 - 256},
		{nil, []int{-7, -1}, 1<<24 - 1, 1<<32 - 256},
		{[]int{141, 232}, []int{0, -16, 1, -9}, 1 << 16, 1 << 24},
		{[]int{214, 153}, []int{0, -16, 1, -9}, 1 << 16, 1 << 24},
		{nil, []int{-16}, 1<<16 - 1, 1<<32 - 1<<16},
	} {
		var l []api.Code
		for _, m := range x.models {
			l = append(l, api.Code{Model: m, Sym: 1})
		}
		w := said(x.sizes, l)
		if end := w.ends[len(l)-1]; end != x.end || w.r != x.then {
			t.Fatalf("%v %v: R is %d, and then %d", x.sizes, l, end, w.r)
		}
		holds(t, x.sizes, l...)
		holds(t, x.sizes, append(l, l...)...)
		holds(t, x.sizes, append(l, plain(16, 65535), plain(16, 65535))...)
	}
}

// By rounding alone: a model of one symbol takes what is left over of R, until a digit comes.
func TestModelOfOneSymbol(t *testing.T) {
	l := make([]api.Code, 3000)
	if b := holds(t, []int{1}, l...); !bytes.Equal(b, make([]byte, 5)) {
		t.Errorf("% x", b)
	}
	// 2^24 - 1 parts of 255: R is hardly above 2^24, and comes below it in the end.
	l = append([]api.Code{{Model: 1, Sym: 254}}, l...)
	w := said([]int{1, 255}, l)
	if w.ends[0] <= 1<<24 || w.digits == 5 {
		t.Fatalf("R was %d, and there are %d digits", w.ends[0], w.digits)
	}
	holds(t, []int{1, 255}, l...)
	holds(t, []int{1, 1}, api.Code{}, api.Code{Model: 1}, api.Code{}, plain(1, 1), api.Code{Model: 1})
}

func TestCountsThatAreHalved(t *testing.T) {
	r := rand.New(rand.NewSource(666))
	for _, n := range []int{1, 2, 3, 31, 32, 33, 100, 255, 256} {
		var l []api.Code
		for range 3000 {
			l = append(l, api.Code{Sym: r.Intn(1 + r.Intn(n))})
		}
		if w := said([]int{n}, l); w.halved < 10 {
			t.Fatalf("halved %d times", w.halved)
		}
		holds(t, []int{n}, l...)
		// Ahead of the first halving, at it, and behind it.
		for to := 245; to < 262; to++ {
			holds(t, []int{n}, append(l[:to:to], plain(16, 1), api.Code{Sym: n - 1})...)
		}
	}
}

// Models are counted each by itself, in whatever turn they come.
func TestModelsInTurn(t *testing.T) {
	sizes := []int{4, 4, 4}
	var turn, rows []api.Code
	for m := range 3 {
		for range 100 {
			rows = append(rows, api.Code{Model: m, Sym: m})
		}
	}
	for i := range 300 {
		turn = append(turn, api.Code{Model: i % 3, Sym: i % 3})
	}
	holds(t, sizes, turn...)
	holds(t, sizes, rows...)
	for i := range turn {
		turn[i].Model = 0
	}
	// With one model for all of them the shares are others.
	if a, b := holds(t, sizes, turn...), holds(t, sizes, rows...); len(a) <= len(b) {
		t.Errorf("%d and %d bytes", len(a), len(b))
	}
}

func TestThereAndBack(t *testing.T) {
	r := rand.New(rand.NewSource(6666))
	for range 1500 {
		sizes := randomSizes(r)
		holds(t, sizes, randomCodes(r, sizes, r.Intn(60))...)
	}
	for range 15 {
		sizes := randomSizes(r)
		holds(t, sizes, randomCodes(r, sizes, 3000)...)
	}
}

// Whatever comes last, and wherever N stands in its digits: the least and the greatest symbols.
func TestEdgesOfShares(t *testing.T) {
	sizes := []int{2, 256}
	for first := range 256 {
		for _, next := range []api.Code{{}, {Sym: 1}, {Model: 1}, {Model: 1, Sym: 255}, plain(16, 0), plain(16, 65535), plain(8, 255)} {
			c := api.Code{Model: 1, Sym: first}
			holds(t, sizes, c, next)
			holds(t, sizes, next, c)
			holds(t, sizes, slices.Repeat([]api.Code{c, next}, 5)...)
		}
	}
}

// rowsOf are all rows of these models.
func rowsOf(sizes, models []int) [][]api.Code {
	rows := [][]api.Code{nil}
	for _, m := range models {
		n := 1 << max(-m, 0)
		if m >= 0 {
			n = sizes[m]
		}
		var more [][]api.Code
		for _, l := range rows {
			for s := range n {
				more = append(more, append(slices.Clone(l), api.Code{Model: m, Sym: s}))
			}
		}
		rows = more
	}
	return rows
}

// beside are rows of bytes that are some little more or less than b.
func beside(b []byte) [][]byte {
	var l [][]byte
	for _, d := range []int64{-65536, -256, -2, -1, 1, 2, 255, 256, 65535, 1 << 24} {
		n := new(big.Int).SetBytes(b)
		n.Add(n, big.NewInt(d))
		if n.Sign() >= 0 && len(n.Bytes()) <= len(b) {
			l = append(l, n.FillBytes(make([]byte, len(b))))
		}
	}
	return l
}

// All rows of few symbols: no two of them have the same bytes, and what lies beside these bytes is none.
func TestEveryRowOfFewModels(t *testing.T) {
	for _, x := range []struct{ sizes, models []int }{
		{nil, nil},
		{[]int{1}, []int{0, 0, 0}},
		{[]int{2}, []int{0, 0, 0, 0, 0, 0}},
		{[]int{3, 2}, []int{0, 1, 0, 1, 0}},
		{[]int{4, 1}, []int{-1, 0, 1, -2, 0}},
		{nil, []int{-8}},
		{nil, []int{-7, -1}},
		{nil, []int{-3, -4, -2}},
		{[]int{256}, []int{0}},
		{[]int{255}, []int{0, -1}},
		{[]int{17}, []int{0, 0}},
	} {
		seen := map[string][]api.Code{}
		rows := rowsOf(x.sizes, x.models)
		for _, l := range rows {
			seen[string(holds(t, x.sizes, l...))] = l
		}
		if len(seen) != len(rows) {
			t.Errorf("%v %v: %d rows of symbols, %d of bytes", x.sizes, x.models, len(rows), len(seen))
		}
		for b := range seen {
			for _, near := range beside([]byte(b)) {
				l, e := Decode(x.sizes, x.models, near)
				want, known := seen[string(near)]
				if known != (e == api.OK) || !slices.Equal(l, want) || !known && e != api.ErrForm {
					t.Fatalf("%v %v % x: %v %d", x.sizes, x.models, near, l, e)
				}
			}
		}
	}
}

// wreck asks for b cut short, with more behind, with less ahead, and with each byte changed.
func wreck(t *testing.T, r *rand.Rand, sizes, models []int, b []byte) {
	t.Helper()
	for to := range b {
		reads(t, sizes, models, b[:to])
	}
	for x := range 256 {
		reads(t, sizes, models, append(bytes.Clone(b), byte(x)))
		reads(t, sizes, models, append([]byte{byte(x)}, b...))
	}
	reads(t, sizes, models, append(bytes.Clone(b), 0, 0, 0, 0, 0))
	for i := range b {
		reads(t, sizes, models, slices.Delete(bytes.Clone(b), i, i+1))
		reads(t, sizes, models, slices.Insert(bytes.Clone(b), i, byte(r.Intn(256))))
		for _, d := range []byte{1, 2, 16, 127, 128, 254, 255, byte(1 + r.Intn(255))} {
			c := bytes.Clone(b)
			c[i] += d
			reads(t, sizes, models, c)
		}
	}
}

func TestDecodeOfWrongBytes(t *testing.T) {
	r := rand.New(rand.NewSource(66666))
	for range 60 {
		sizes := randomSizes(r)
		l := randomCodes(r, sizes, r.Intn(12))
		wreck(t, r, sizes, modelsIn(l), holds(t, sizes, l...))
	}
	for _, models := range [][]int{nil, {-16}, {-1}, {0}, {1}, {0, 0, 1}} {
		wreck(t, r, []int{1, 256}, models, make([]byte, 5))
		wreck(t, r, []int{1, 256}, models, make([]byte, 6))
	}
}

// Each byte of these is changed to each other one.
func TestDecodeOfEveryChangedByte(t *testing.T) {
	for _, x := range []struct {
		sizes []int
		l     []api.Code
	}{
		{nil, nil},
		{nil, []api.Code{plain(16, 40000)}},
		{[]int{3}, []api.Code{{Sym: 1}, {Sym: 2}}},
		{[]int{256, 1}, []api.Code{{Sym: 77}, {Model: 1}, {Sym: 200}}},
		// With 255 for its second byte, these bytes are beyond all shares of the first code: by the last four digits
		// alone they would be the same row from the next code on.
		{[]int{256, 255}, []api.Code{{}, {Model: 1, Sym: 254}, plain(16, 65283)}},
	} {
		b := holds(t, x.sizes, x.l...)
		for i := range b {
			for d := 1; d < 256; d++ {
				c := bytes.Clone(b)
				c[i] += byte(d)
				reads(t, x.sizes, modelsIn(x.l), c)
			}
		}
	}
}

// A long row is cut short and goes on too long in just the same way.
func TestDecodeOfLongWrongBytes(t *testing.T) {
	r := rand.New(rand.NewSource(666666))
	sizes := []int{256, 1, 2, 30}
	l := randomCodes(r, sizes, 2000)
	models := modelsIn(l)
	b := holds(t, sizes, l...)
	for _, c := range [][]byte{b[:len(b)-1], b[:len(b)/2], b[:4], b[1:], append(bytes.Clone(b), 0), append(bytes.Clone(b), b...)} {
		got, e := Decode(sizes, models, c)
		unread(t, fmt.Sprintf("%d of %d bytes", len(c), len(b)), got, e, api.ErrForm)
	}
	for range 200 {
		c := bytes.Clone(b)
		c[r.Intn(len(c))] ^= byte(1 + r.Intn(255))
		got, e := Decode(sizes, models, c)
		unread(t, "a changed byte", got, e, api.ErrForm)
	}
	for _, more := range [][]int{models[1:], append(slices.Clone(models), -9)} {
		got, e := Decode(sizes, more, b)
		unread(t, "other models", got, e, api.ErrForm)
	}
}

func TestDecodeOfNoBytes(t *testing.T) {
	for _, models := range [][]int{nil, {0}, {-16}, {0, -1, 0}, make([]int, 65536)} {
		for _, b := range nothing {
			l, e := Decode([]int{5}, models, b)
			unread(t, fmt.Sprintf("% x", b), l, e, api.ErrForm)
		}
	}
}

func TestDecodeOfAFirstByteThatIsNot0(t *testing.T) {
	for _, l := range [][]api.Code{nil, {{}}, {{Sym: 4}}, {plain(16, 65535)}, {plain(1, 1), {Sym: 2}}} {
		b := holds(t, []int{5}, l...)
		for x := 1; x < 256; x++ {
			b[0] = byte(x)
			got, e := Decode([]int{5}, modelsIn(l), b)
			unread(t, fmt.Sprintf("% x", b), got, e, api.ErrForm)
			for _, c := range [][]byte{{byte(x), 0, 0, 0, 0}, {byte(x), 255, 255, 255, 255, 255}, {byte(x)}} {
				got, e = Decode([]int{5}, modelsIn(l), c)
				unread(t, fmt.Sprintf("% x", c), got, e, api.ErrForm)
			}
		}
	}
}

func TestDecodeBeyondAllShares(t *testing.T) {
	for n := 1; n <= 256; n++ {
		q := (1<<32 - 1) / n
		for _, v := range []int{q * n, q*n + 1, 1<<32 - 1} {
			if v >= 1<<32 {
				continue
			}
			b := []byte{0, byte(v >> 24), byte(v >> 16), byte(v >> 8), byte(v)}
			for _, behind := range [][]byte{nil, {0}, {0, 0}, {255, 255, 255}} {
				c := append(bytes.Clone(b), behind...)
				l, e := Decode([]int{n}, []int{0}, c)
				unread(t, fmt.Sprintf("%d: % x", n, c), l, e, api.ErrForm)
			}
		}
	}
	for bits := 1; bits <= 16; bits++ {
		q := (1<<32 - 1) >> bits
		for _, v := range []int{q << bits, 1<<32 - 1} {
			b := []byte{0, byte(v >> 24), byte(v >> 16), byte(v >> 8), byte(v)}
			for _, behind := range [][]byte{nil, {0}, {0, 0}, {255, 255, 255}} {
				c := append(bytes.Clone(b), behind...)
				l, e := Decode(nil, []int{-bits}, c)
				unread(t, fmt.Sprintf("%d bits: % x", bits, c), l, e, api.ErrForm)
			}
		}
	}
	// Not by the first code, but by those behind it.
	for _, models := range [][]int{{0, 0}, {-16, 0}, {0, -16}, {0, -3, 0, -5, 0}} {
		b := holds(t, []int{7}, toward([]int{7}, models, []byte{0, 0x12, 0x34, 0x56, 0x78, 0x9a})...)
		for i := 1; i < len(b); i++ {
			c := append(bytes.Clone(b[:i]), bytes.Repeat([]byte{255}, len(b)-i)...)
			reads(t, []int{7}, models, c)
		}
	}
}

// Any bytes at all, with any models that may be.
func TestDecodeOfAnyBytes(t *testing.T) {
	r := rand.New(rand.NewSource(6666666))
	for range 20000 {
		sizes := randomSizes(r)
		b := make([]byte, r.Intn(16))
		r.Read(b)
		if len(b) > 0 && r.Intn(8) > 0 {
			b[0] = 0
		}
		reads(t, sizes, modelsIn(randomCodes(r, sizes, r.Intn(8))), b)
	}
}

// Any arguments at all: what the chapter asks, and no panic.
func TestAnyInput(t *testing.T) {
	r := rand.New(rand.NewSource(60))
	whatever := func() int {
		return []int{0, 1, -1, -16, -17, 15, 16, 255, 256, 257, math.MinInt, math.MaxInt, r.Intn(300), -r.Intn(20), int(r.Uint64())}[r.Intn(15)]
	}
	for range 20000 {
		sizes := randomSizes(r)
		if r.Intn(4) == 0 {
			sizes = append(sizes, whatever())
		}
		l := randomCodes(r, nil, r.Intn(4))
		for range r.Intn(3) {
			l = append(l, api.Code{Model: whatever(), Sym: whatever()})
		}
		b, e := Encode(sizes, l...)
		if may := mayBe(sizes, l); may != (e == api.OK) || !may && (e != api.ErrArg || len(b) > 0) {
			t.Fatalf("Encode(%v, %v): %d bytes, %d", sizes, l, len(b), e)
		}
		junk := make([]byte, r.Intn(9))
		got, g := Decode(sizes, modelsIn(l), junk)
		for i := range l {
			l[i].Sym = 0
		}
		if may := mayBe(sizes, l); may == (g == api.ErrArg) || g != api.OK && len(got) > 0 {
			t.Fatalf("Decode(%v, %v): %d codes, %d", sizes, modelsIn(l), len(got), g)
		}
	}
}

// mayBe tells what the chapter does of sizes and codes.
func mayBe(sizes []int, l []api.Code) bool {
	for _, n := range sizes {
		if n < 1 || n > 256 {
			return false
		}
	}
	for _, c := range l {
		switch {
		case c.Model < -16 || c.Model >= len(sizes) || c.Sym < 0:
			return false
		case c.Model < 0 && c.Sym > 1<<-c.Model-1:
			return false
		case c.Model >= 0 && c.Sym > sizes[c.Model]-1:
			return false
		}
	}
	return len(sizes) <= 16
}

// asCodes are l's bytes as symbols of one model.
func asCodes(l []byte) []api.Code {
	var codes []api.Code
	for _, x := range l {
		codes = append(codes, api.Code{Sym: int(x)})
	}
	return codes
}

// packs goes there, as the words do, and back.
func packs(t *testing.T, l []byte) []byte {
	t.Helper()
	b, e := Pack(l)
	if e != api.OK || !bytes.Equal(b, said([]int{256}, asCodes(l)).bytes()) {
		t.Fatalf("Pack of %d bytes: %d bytes, %d", len(l), len(b), e)
	}
	if back, e := Unpack(len(l), b); e != api.OK || !bytes.Equal(back, l) {
		t.Fatalf("Unpack of %d bytes: %d bytes, %d", len(l), len(back), e)
	}
	return b
}

// unpacks holds Unpack against the words, whether these bytes are any or none.
func unpacks(t *testing.T, n int, b []byte) {
	t.Helper()
	codes, want := read([]int{256}, make([]int, n), b)
	l, e := Unpack(n, b)
	if e != want || !slices.Equal(asCodes(l), codes) {
		t.Fatalf("Unpack(%d, % x): % x %d, not %v %d", n, b, l, e, codes, want)
	}
}

func TestPackOfFew(t *testing.T) {
	for _, l := range [][]byte{nil, {}} {
		if b := packs(t, l); !bytes.Equal(b, make([]byte, 5)) {
			t.Errorf("Pack of nothing: % x", b)
		}
	}
	for x := range 256 {
		b := packs(t, []byte{byte(x)})
		// A part is 2^24 - 1, which is one less than a digit is worth.
		n := x * (1<<24 - 1)
		if want := []byte{0, byte(n >> 24), byte(n >> 16), byte(n >> 8), byte(n), 0}; !bytes.Equal(b, want) {
			t.Errorf("Pack of %02x: % x", x, b)
		}
		packs(t, []byte{byte(x), byte(x)})
		packs(t, []byte{byte(x), 255 - byte(x), byte(x)})
	}
}

func TestPackOfMany(t *testing.T) {
	all := make([]byte, 256)
	for x := range all {
		all[x] = byte(x)
	}
	packs(t, all)
	packs(t, bytes.Repeat(all, 20))
	slices.Reverse(all)
	packs(t, all)
	for _, x := range []byte{0, 1, 'a', 254, 255} {
		if b := packs(t, bytes.Repeat([]byte{x}, 5000)); len(b) > 200 {
			t.Errorf("%d bytes of one kind in %d", 5000, len(b))
		}
	}
	text := bytes.Repeat([]byte("a ring is arcs that close; "), 100)
	if b := packs(t, text); len(b) > len(text)*3/5 {
		t.Errorf("%d bytes of text in %d", len(text), len(b))
	}
	r := rand.New(rand.NewSource(61))
	for range 200 {
		l := make([]byte, r.Intn(400))
		r.Read(l)
		packs(t, l)
	}
}

// long is so many bytes.
func long(n int) []byte {
	l := make([]byte, n)
	rand.New(rand.NewSource(62)).Read(l)
	return l
}

func TestPackOfMaxCodesAndOneMore(t *testing.T) {
	packs(t, long(65536))
	packs(t, make([]byte, 65536))
	packs(t, long(65535))
	for _, n := range []int{65537, 65538, 1 << 17, 1 << 20} {
		b, e := Pack(long(n))
		refused(t, fmt.Sprintf("Pack of %d", n), b, e, api.ErrLong)
	}
}

// Far too many bytes are refused at once, and take no room.
func TestFarTooManyTakeNoRoom(t *testing.T) {
	huge := make([]byte, 1<<26)
	var was, is runtime.MemStats
	runtime.ReadMemStats(&was)
	b, e := Pack(huge)
	refused(t, "Pack", b, e, api.ErrLong)
	for _, n := range []int{1 << 31, math.MaxInt, math.MaxInt - 1} {
		b, e = Unpack(n, nil)
		refused(t, "Unpack", b, e, api.ErrLong)
	}
	b, e = Unpack(10, huge)
	refused(t, "Unpack of many bytes", b, e, api.ErrForm)
	l, e := Decode(nil, nil, huge)
	unread(t, "Decode of many bytes", l, e, api.ErrForm)
	runtime.ReadMemStats(&is)
	if room := is.TotalAlloc - was.TotalAlloc; room > 1<<20 {
		t.Errorf("%d bytes of room", room)
	}
}

func TestUnpackOfHowMany(t *testing.T) {
	six := make([]byte, 6)
	for _, n := range []int{-1, -2, -65536, math.MinInt32, math.MinInt} {
		for _, b := range [][]byte{nil, six, {1}, long(100)} {
			l, e := Unpack(n, b)
			refused(t, fmt.Sprintf("Unpack(%d)", n), l, e, api.ErrArg)
		}
	}
	for _, n := range []int{65537, 65538, 1 << 17, math.MaxInt32, math.MaxInt} {
		for _, b := range [][]byte{nil, six, {1}, long(100)} {
			l, e := Unpack(n, b)
			refused(t, fmt.Sprintf("Unpack(%d)", n), l, e, api.ErrLong)
		}
	}
	if l, e := Unpack(0, make([]byte, 5)); e != api.OK || len(l) != 0 {
		t.Errorf("Unpack(0): % x %d", l, e)
	}
	for n := range 9 {
		for digits := range 9 {
			unpacks(t, n, make([]byte, digits))
		}
	}
	for _, n := range []int{0, 1, 65536} {
		for _, b := range [][]byte{nil, {}, {0}, {0, 0, 0, 0}, {0, 0, 0, 0, 1}, {1, 0, 0, 0, 0, 0}, {0, 255, 255, 255, 255, 0}} {
			l, e := Unpack(n, b)
			refused(t, fmt.Sprintf("Unpack(%d, % x)", n, b), l, e, api.ErrForm)
		}
	}
}

// One byte 0 and several have the same digits: how many there are is told by n alone.
func TestUnpackOfFewerAndMore(t *testing.T) {
	six := make([]byte, 6)
	for n := 1; n < 5; n++ {
		if l, e := Unpack(n, six); e != api.OK || !bytes.Equal(l, make([]byte, n)) {
			t.Errorf("Unpack(%d): % x %d", n, l, e)
		}
	}
	r := rand.New(rand.NewSource(63))
	for range 200 {
		l := long(1 + r.Intn(40))
		b := packs(t, l)
		for _, n := range []int{len(l) - 1, len(l) + 1, 0, 2 * len(l)} {
			unpacks(t, n, b)
		}
		if x, e := Unpack(len(l)-1, b); e != api.ErrForm || len(x) > 0 {
			t.Errorf("one fewer than %d: % x %d", len(l), x, e)
		}
		if x, e := Unpack(len(l)+1, b); e != api.ErrForm || len(x) > 0 {
			t.Errorf("one more than %d: % x %d", len(l), x, e)
		}
	}
}

func TestUnpackOfWrongBytes(t *testing.T) {
	r := rand.New(rand.NewSource(64))
	for _, l := range [][]byte{nil, {0}, {7}, {255}, {0, 0, 0}, []byte("abcabcab"), long(20)} {
		b := packs(t, l)
		for to := range b {
			unpacks(t, len(l), b[:to])
		}
		for i := range b {
			c := bytes.Clone(b)
			c[i] += byte(1 + r.Intn(255))
			unpacks(t, len(l), c)
		}
		for x := range 256 {
			unpacks(t, len(l), append(bytes.Clone(b), byte(x)))
		}
	}
}

// Pack and Encode are one thing, and so are Unpack and Decode.
func TestPackIsEncode(t *testing.T) {
	l := []byte("surfaces of triangles")
	p, _ := Pack(l)
	if b := holds(t, []int{256}, asCodes(l)...); !bytes.Equal(b, p) {
		t.Errorf("% x, not % x", p, b)
	}
}

func TestWhatIsHandedInStays(t *testing.T) {
	sizes := []int{9, 256, 1, 0, 500}
	l := []api.Code{{Sym: 8}, {Model: 1, Sym: 7}, plain(16, 9), {Model: 2}, {Model: 7}, {Sym: 99}}
	models := []int{0, 1, -16, 2, 7, -99}
	b := append(encoded(t, sizes[:3], l[:4]...), 7, 8, 9)
	sizesWere, were, modelsWere, bytesWere := slices.Clone(sizes), slices.Clone(l), slices.Clone(models), bytes.Clone(b)
	for i := range sizes {
		for j := range l {
			Encode(sizes[:i], l[:j]...)
			for k := range b {
				Decode(sizes[:i], models[:j], b[:k])
			}
		}
	}
	text := []byte("abcabcab")
	p, _ := Pack(text[:6])
	packed := bytes.Clone(p)
	Unpack(6, p)
	Unpack(5, p)
	if !slices.Equal(sizes, sizesWere) || !slices.Equal(l, were) || !slices.Equal(models, modelsWere) || !bytes.Equal(b, bytesWere) {
		t.Error("Encode or Decode changed what was handed in")
	}
	if string(text) != "abcabcab" || !bytes.Equal(p, packed) {
		t.Error("Pack or Unpack changed what was handed in")
	}
}

// What came out stays as it was, whatever is done to what was handed in, to other answers, and to the room behind them.
func TestWhatComesOutIsNewMemory(t *testing.T) {
	sizes, l := []int{9, 3}, []api.Code{{Sym: 8}, {Model: 1, Sym: 2}, plain(16, 9)}
	models := modelsIn(l)
	b, two := encoded(t, sizes, l...), encoded(t, sizes, l...)
	want := bytes.Clone(b)
	codes, _ := Decode(sizes, models, b)
	again, _ := Decode(sizes, models, b)
	text := []byte("abcabcab")
	p, q := packs(t, text), packs(t, text)
	packed := bytes.Clone(p)
	x, _ := Unpack(8, p)
	y, _ := Unpack(8, p)
	clear(two[:cap(two)])
	clear(again[:cap(again)])
	clear(q[:cap(q)])
	clear(y[:cap(y)])
	if !bytes.Equal(b, want) || !slices.Equal(codes, l) || !bytes.Equal(p, packed) || string(x) != "abcabcab" {
		t.Error("two answers share memory")
	}
	were := slices.Clone(l)
	clear(sizes)
	clear(l)
	clear(models)
	clear(text)
	if !bytes.Equal(b, want) || !bytes.Equal(p, packed) {
		t.Error("an answer is what was handed in")
	}
	clear(b[:cap(b)])
	clear(p[:cap(p)])
	if !slices.Equal(codes, were) || string(x) != "abcabcab" {
		t.Error("an answer is the bytes that were handed in")
	}
}

// Room behind what is handed in is nobody's: neither read nor written.
func TestRoomBehindIsNotRead(t *testing.T) {
	l := []byte{1, 2, 3, 4, 5}
	b, _ := Pack(l[:2])
	room := append(bytes.Clone(b), 1, 2, 3, 4)
	if x, e := Unpack(2, room[:len(b)]); e != api.OK || !bytes.Equal(x, l[:2]) {
		t.Errorf("% x %d", x, e)
	}
	unpacks(t, 3, room[:len(b)])
	if !bytes.Equal(room[len(b):], l[:4]) || !bytes.Equal(l, []byte{1, 2, 3, 4, 5}) {
		t.Error("room behind was written")
	}
}

func TestCallsKnowNothingOfOneAnother(t *testing.T) {
	sizes := []int{5, 256}
	l := randomCodes(rand.New(rand.NewSource(65)), sizes, 700)
	b := holds(t, sizes, l...)
	models := modelsIn(l)
	for range 3 {
		Encode([]int{0}, l...)
		Decode(sizes, models, b[:len(b)/2])
		Pack(long(300))
		Unpack(300, b)
		if again := holds(t, sizes, l...); !bytes.Equal(b, again) {
			t.Fatal("the same codes, and other bytes")
		}
	}
	var all sync.WaitGroup
	wrong := make([]bool, 8)
	for i := range wrong {
		all.Go(func() {
			for range 20 {
				again, _ := Encode(sizes, l...)
				codes, _ := Decode(sizes, models, b)
				wrong[i] = wrong[i] || !bytes.Equal(again, b) || !slices.Equal(codes, l)
			}
		})
	}
	all.Wait()
	if slices.Contains(wrong, true) {
		t.Error("calls at the same time answer other things")
	}
}

func TestErrorsAreToldFirstThingFirst(t *testing.T) {
	six, many := make([]byte, 6), make([]int, 65537)
	for _, x := range []struct {
		what          string
		sizes, models []int
		b             []byte
		want          api.Errno
	}{
		{"sizes, too many, no form", []int{0}, many, nil, api.ErrArg},
		{"a model, too many, no form", []int{1}, append(slices.Clone(many), 1), nil, api.ErrArg},
		{"a model, no form", []int{1}, []int{0, 1}, nil, api.ErrArg},
		{"sizes, no form", []int{257}, nil, nil, api.ErrArg},
		{"too many, no form", []int{1}, many, nil, api.ErrLong},
		{"too many", []int{1}, many, make([]byte, 5), api.ErrLong},
		{"no form", []int{1}, many[1:], six, api.ErrForm},
	} {
		l, e := Decode(x.sizes, x.models, x.b)
		unread(t, x.what, l, e, x.want)
	}
	b, e := Unpack(-1, nil)
	refused(t, "n, no form", b, e, api.ErrArg)
	b, e = Unpack(65537, nil)
	refused(t, "too many, no form", b, e, api.ErrLong)
	b, e = Unpack(65536, nil)
	refused(t, "no form", b, e, api.ErrForm)
}
