package wide

import (
	"math"
	"math/rand"
	"slices"
	"testing"

	"lapidary/api"
)

const (
	minInt = math.MinInt
	maxInt = math.MaxInt
	maxLo  = math.MaxUint64
)

var (
	least    = Num{Hi: minInt}            // -2^127
	greatest = Num{Hi: maxInt, Lo: maxLo} // 2^127 - 1
)

func TestOf(t *testing.T) {
	for _, row := range []struct {
		n    int
		want Num
	}{
		{0, Num{}},
		{1, Num{Lo: 1}},
		{-1, Num{Hi: -1, Lo: maxLo}},
		{-2, Num{Hi: -1, Lo: maxLo - 1}},
		{1 << 31, Num{Lo: 1 << 31}},
		{-1 << 31, Num{Hi: -1, Lo: 1<<64 - 1<<31}},
		{1 << 32, Num{Lo: 1 << 32}},
		{-1 << 32, Num{Hi: -1, Lo: 1<<64 - 1<<32}},
		{1 << 62, Num{Lo: 1 << 62}},
		{-1 << 62, Num{Hi: -1, Lo: 3 << 62}},
		{maxInt, Num{Lo: 1<<63 - 1}},
		{maxInt - 1, Num{Lo: 1<<63 - 2}},
		{minInt, Num{Hi: -1, Lo: 1 << 63}},
		{minInt + 1, Num{Hi: -1, Lo: 1<<63 + 1}},
	} {
		if a := Of(row.n); a != row.want {
			t.Errorf("Of %d: %v, not %v", row.n, a, row.want)
		}
	}
}

// TestThereAndBack: a word is the same once it was wide, and just the wide numbers of words are words.
func TestThereAndBack(t *testing.T) {
	r := rand.New(rand.NewSource(8))
	l := words()
	for range 2000 {
		l = append(l, drawnWord(r))
	}
	for _, n := range l {
		if v := valueByWords(Of(n)); !v.IsInt64() || int(v.Int64()) != n {
			t.Errorf("Of %d: %v", n, v)
		}
		if back, ok := Int(Of(n)); back != n || !ok {
			t.Errorf("%d: %d, %t comes back", n, back, ok)
		}
	}
	for _, a := range append(nums(), drawnNums(r, 2000)...) {
		if n, ok := Int(a); ok && Of(n) != a {
			t.Errorf("%v is %d, and that is %v", a, n, Of(n))
		}
	}
}

func TestInt(t *testing.T) {
	for _, row := range []struct {
		a  Num
		n  int
		ok bool
	}{
		{Num{}, 0, true},
		{Num{Lo: 1}, 1, true},
		{Num{Hi: -1, Lo: maxLo}, -1, true},
		{Num{Lo: 1<<63 - 1}, maxInt, true},
		{Num{Lo: 1 << 63}, 0, false},
		{Num{Lo: 1<<63 + 1}, 0, false},
		{Num{Lo: maxLo}, 0, false},
		{Num{Hi: -1, Lo: 1 << 63}, minInt, true},
		{Num{Hi: -1, Lo: 1<<63 + 1}, minInt + 1, true},
		{Num{Hi: -1, Lo: 1<<63 - 1}, 0, false},
		{Num{Hi: -1, Lo: 1<<63 - 2}, 0, false},
		{Num{Hi: -1, Lo: 0}, 0, false},
		{Num{Hi: -1, Lo: 1}, 0, false},
		{Num{Hi: 1, Lo: 0}, 0, false},
		{Num{Hi: 1, Lo: 5}, 0, false},
		{Num{Hi: 1, Lo: maxLo}, 0, false},
		{Num{Hi: -2, Lo: maxLo}, 0, false},
		{least, 0, false},
		{greatest, 0, false},
		{Num{Hi: minInt, Lo: maxLo}, 0, false},
		{Num{Hi: maxInt}, 0, false},
	} {
		if n, ok := Int(row.a); n != row.n || ok != row.ok {
			t.Errorf("Int of %v: %d, %t, not %d, %t", row.a, n, ok, row.n, row.ok)
		}
	}
	for _, a := range append(nums(), drawnNums(rand.New(rand.NewSource(81)), 2000)...) {
		n, ok := Int(a)
		if want, wantOk := intByWords(a); n != want || ok != wantOk {
			t.Errorf("Int of %v: %d, %t, not %d, %t", a, n, ok, want, wantOk)
		}
	}
}

func TestMul(t *testing.T) {
	for _, row := range []struct {
		a, b int
		want Num
	}{
		{0, 0, Num{}},
		{0, -5, Num{}},
		{0, minInt, Num{}},
		{0, maxInt, Num{}},
		{1, 1, Num{Lo: 1}},
		{-1, 1, Num{Hi: -1, Lo: maxLo}},
		{-1, -1, Num{Lo: 1}},
		{3, -4, Num{Hi: -1, Lo: 1<<64 - 12}},
		{1 << 62, 2, Num{Lo: 1 << 63}},
		{1 << 62, 4, Num{Hi: 1}},
		{-1 << 62, 4, Num{Hi: -1}},
		{1 << 32, 1 << 32, Num{Hi: 1}},
		{1 << 32, -1 << 32, Num{Hi: -1}},
		{1 << 31, 1 << 31, Num{Lo: 1 << 62}},
		{minInt, 1, Num{Hi: -1, Lo: 1 << 63}},
		{minInt, -1, Num{Lo: 1 << 63}},
		{minInt, 2, Num{Hi: -1}},
		{minInt, -2, Num{Hi: 1}},
		{minInt, minInt, Num{Hi: 1 << 62}},
		{minInt, maxInt, Num{Hi: -1 << 62, Lo: 1 << 63}},
		{maxInt, maxInt, Num{Hi: 1<<62 - 1, Lo: 1}},
		{maxInt, -1, Num{Hi: -1, Lo: 1<<63 + 1}},
	} {
		if p := Mul(row.a, row.b); p != row.want {
			t.Errorf("Mul of %d, %d: %v, not %v", row.a, row.b, p, row.want)
		}
	}
}

// TestMulWords holds every two words against numbers of any length.
func TestMulWords(t *testing.T) {
	l := words()
	r := rand.New(rand.NewSource(82))
	for range 100 {
		l = append(l, drawnWord(r))
	}
	for _, a := range l {
		for _, b := range l {
			p := Mul(a, b)
			if want := mulByWords(a, b); p != want {
				t.Fatalf("Mul of %d, %d: %v, not %v", a, b, p, want)
			}
			if Mul(b, a) != p {
				t.Fatalf("Mul of %d, %d: %v, and the other way round %v", a, b, p, Mul(b, a))
			}
		}
	}
}

func TestAdd(t *testing.T) {
	one, minus := Of(1), Of(-1)
	for i, row := range []struct {
		a    Num
		l    []Num
		want Num
	}{
		{Num{}, nil, Num{}},
		{Num{}, []Num{}, Num{}},
		{Num{Hi: -7, Lo: 5}, nil, Num{Hi: -7, Lo: 5}},
		{least, []Num{}, least},
		{greatest, nil, greatest},
		{one, []Num{one}, Num{Lo: 2}},
		{one, []Num{minus}, Num{}},
		{minus, []Num{minus}, Num{Hi: -1, Lo: maxLo - 1}},
		{Num{Lo: maxLo}, []Num{one}, Num{Hi: 1}},
		{one, []Num{{Lo: maxLo}}, Num{Hi: 1}},
		{Num{Lo: maxLo}, []Num{{Lo: maxLo}}, Num{Hi: 1, Lo: maxLo - 1}},
		{Num{Lo: 1 << 63}, []Num{{Lo: 1<<63 - 1}}, Num{Lo: maxLo}},
		{Num{Lo: 1 << 63}, []Num{{Lo: 1 << 63}}, Num{Hi: 1}},
		{Num{Hi: 3, Lo: 4}, []Num{{Hi: 5, Lo: 6}}, Num{Hi: 8, Lo: 10}},
		{Num{Hi: 1}, []Num{minus}, Num{Lo: maxLo}},
		{Num{Lo: maxLo}, []Num{one, Of(-2)}, Num{Lo: maxLo - 1}},
		{one, []Num{one, one, one}, Num{Lo: 4}},
		{one, []Num{{}, {}, one, {}}, Num{Lo: 2}},
		{Num{}, []Num{{}, {Hi: 2, Lo: 3}}, Num{Hi: 2, Lo: 3}},
		{one, []Num{{Hi: 1}, {Hi: -1}, {Lo: 0}}, one},
		{greatest, []Num{one}, least},
		{greatest, []Num{greatest}, Num{Hi: -1, Lo: maxLo - 1}},
		{greatest, []Num{one, minus}, greatest},
		{least, []Num{minus}, greatest},
		{least, []Num{minus, one}, least},
		{least, []Num{least}, Num{}},
		{least, []Num{least, one}, one},
		{least, []Num{greatest}, minus},
		{Num{Hi: maxInt}, []Num{{Hi: 1}}, least},
		{Num{Hi: minInt, Lo: 5}, []Num{{Hi: -1}}, Num{Hi: maxInt, Lo: 5}},
	} {
		if sum := Add(row.a, row.l...); sum != row.want {
			t.Errorf("row %d: %v, not %v", i, sum, row.want)
		}
	}
}

// TestAddWords holds every two, and rows of many, against numbers of any length.
func TestAddWords(t *testing.T) {
	for _, a := range nums() {
		for _, b := range nums() {
			if sum, want := Add(a, b), addByWords(a, []Num{b}); sum != want {
				t.Fatalf("Add of %v, %v: %v, not %v", a, b, sum, want)
			}
		}
	}
	r := rand.New(rand.NewSource(83))
	edge := nums()
	for n := range 300 {
		a, l := drawnNum(r), drawnNums(r, n)
		for i := range l {
			switch r.Intn(4) {
			case 0:
				l[i] = edge[r.Intn(len(edge))]
			case 1:
				l[i] = Num{}
			}
		}
		before := slices.Clone(l)
		if sum, want := Add(a, l...), addByWords(a, l); sum != want {
			t.Fatalf("Add of %v, %v: %v, not %v", a, l, sum, want)
		}
		if !slices.Equal(l, before) {
			t.Fatalf("Add changed %v to %v", before, l)
		}
	}
}

// TestAddMany has so many that one left out, or one carry, would show.
func TestAddMany(t *testing.T) {
	l := make([]Num, 100000)
	for i := range l {
		l[i] = Num{Hi: i, Lo: 1 << 63}
	}
	if sum, want := Add(Num{}, l...), (Num{Hi: 99999*50000 + 50000}); sum != want {
		t.Error(sum, want)
	}
	for i := range l {
		l[i] = greatest
	}
	if sum, want := Add(Of(100000), l...), (Num{}); sum != want {
		t.Error(sum, want)
	}
}

func TestNeg(t *testing.T) {
	for _, row := range []struct {
		a, want Num
	}{
		{Num{}, Num{}},
		{Num{Lo: 1}, Num{Hi: -1, Lo: maxLo}},
		{Num{Hi: -1, Lo: maxLo}, Num{Lo: 1}},
		{Num{Hi: 1}, Num{Hi: -1}},
		{Num{Hi: -1}, Num{Hi: 1}},
		{Num{Hi: 5}, Num{Hi: -5}},
		{Num{Hi: maxInt}, Num{Hi: minInt + 1}},
		{Num{Hi: minInt + 1}, Num{Hi: maxInt}},
		{Num{Hi: 5, Lo: 1}, Num{Hi: -6, Lo: maxLo}},
		{Num{Lo: 1 << 63}, Num{Hi: -1, Lo: 1 << 63}},
		{Num{Hi: -1, Lo: 1 << 63}, Num{Lo: 1 << 63}},
		{Num{Lo: maxLo}, Num{Hi: -1, Lo: 1}},
		{least, least},
		{greatest, Num{Hi: minInt, Lo: 1}},
		{Num{Hi: minInt, Lo: 1}, greatest},
	} {
		if a := Neg(row.a); a != row.want {
			t.Errorf("Neg of %v: %v, not %v", row.a, a, row.want)
		}
	}
	for _, a := range append(nums(), drawnNums(rand.New(rand.NewSource(84)), 2000)...) {
		v := valueByWords(a)
		if n, want := Neg(a), numByWords(v.Neg(v)); n != want {
			t.Errorf("Neg of %v: %v, not %v", a, n, want)
		}
	}
}

func TestCmp(t *testing.T) {
	for _, row := range []struct {
		a, b Num
		want int
	}{
		{Num{}, Num{}, 0},
		{Of(3), Of(3), 0},
		{least, least, 0},
		{greatest, greatest, 0},
		{Of(-1), Of(-2), 1},
		{Of(-1), Of(0), -1},
		{Of(-1), Of(1), -1},
		{Num{Lo: maxLo}, Num{Hi: 1}, -1},
		{Num{Hi: 1}, Num{Lo: maxLo}, 1},
		{Num{Lo: 1 << 63}, Num{Lo: 1<<63 - 1}, 1},
		{Num{Lo: 1 << 63}, Num{}, 1},
		{Num{Lo: maxLo}, Num{Lo: 1 << 63}, 1},
		{Num{Hi: 7, Lo: maxLo}, Num{Hi: 7, Lo: 1}, 1},
		{Num{Hi: -7, Lo: maxLo}, Num{Hi: -7, Lo: 1}, 1},
		{Num{Hi: -7, Lo: 1}, Num{Hi: -7, Lo: 1 << 63}, -1},
		{Num{Hi: -7, Lo: 5}, Num{Hi: 7, Lo: 5}, -1},
		{Num{Hi: 8, Lo: 5}, Num{Hi: 7, Lo: 5}, 1},
		{Num{Hi: -8, Lo: 5}, Num{Hi: -7, Lo: 5}, -1},
		{least, greatest, -1},
		{greatest, least, 1},
		{Num{Hi: minInt, Lo: 1}, least, 1},
		{Num{Hi: minInt, Lo: maxLo}, Num{Hi: maxInt}, -1},
	} {
		if c := Cmp(row.a, row.b); c != row.want {
			t.Errorf("Cmp of %v, %v: %d, not %d", row.a, row.b, c, row.want)
		}
	}
}

// TestCmpWords has every two, in either order, and what they are on their own.
func TestCmpWords(t *testing.T) {
	l := append(nums(), drawnNums(rand.New(rand.NewSource(85)), 200)...)
	for _, a := range l {
		if s, want := Sign(a), valueByWords(a).Sign(); s != want {
			t.Errorf("Sign of %v: %d, not %d", a, s, want)
		}
		for _, b := range l {
			c := Cmp(a, b)
			if want := valueByWords(a).Cmp(valueByWords(b)); c != want {
				t.Fatalf("Cmp of %v, %v: %d, not %d", a, b, c, want)
			}
			if back := Cmp(b, a); back != -c {
				t.Fatalf("Cmp of %v, %v: %d, and the other way round %d", a, b, c, back)
			}
			if (c == 0) != (a == b) {
				t.Fatalf("Cmp of %v, %v: %d", a, b, c)
			}
		}
	}
}

func TestSign(t *testing.T) {
	for _, row := range []struct {
		a    Num
		want int
	}{
		{Num{}, 0},
		{Num{Lo: 1}, 1},
		{Num{Lo: 1<<63 - 1}, 1},
		{Num{Lo: 1 << 63}, 1},
		{Num{Lo: maxLo}, 1},
		{Num{Hi: 1}, 1},
		{Num{Hi: 1, Lo: maxLo}, 1},
		{Num{Hi: -1}, -1},
		{Num{Hi: -1, Lo: 5}, -1},
		{Num{Hi: -1, Lo: 1 << 63}, -1},
		{Num{Hi: -1, Lo: maxLo}, -1},
		{least, -1},
		{greatest, 1},
	} {
		if s := Sign(row.a); s != row.want {
			t.Errorf("Sign of %v: %d, not %d", row.a, s, row.want)
		}
	}
}

func TestDot(t *testing.T) {
	for _, row := range []struct {
		l    []int
		want Num
		e    api.Errno
	}{
		{nil, Num{}, api.OK},
		{[]int{}, Num{}, api.OK},
		{[]int{0}, Num{}, api.ErrArg},
		{[]int{5}, Num{}, api.ErrArg},
		{[]int{minInt}, Num{}, api.ErrArg},
		{[]int{3, 4}, Num{Lo: 12}, api.OK},
		{[]int{3, -4}, Num{Hi: -1, Lo: 1<<64 - 12}, api.OK},
		{[]int{3, 4, 5}, Num{}, api.ErrArg},
		{[]int{3, 4, 0}, Num{}, api.ErrArg},
		{[]int{3, 4, -2, 6}, Num{}, api.OK},
		{[]int{3, 4, 5, 6}, Num{Lo: 42}, api.OK},
		{[]int{3, 4, 5, 6, 7}, Num{}, api.ErrArg},
		{[]int{1 << 62, 4, 1, 1}, Num{Hi: 1, Lo: 1}, api.OK},
		{[]int{1 << 62, 4, -1, 1}, Num{Lo: maxLo}, api.OK},
		{[]int{minInt, minInt}, Num{Hi: 1 << 62}, api.OK},
		{[]int{minInt, minInt, minInt, minInt}, least, api.OK},
		{[]int{minInt, minInt, minInt, minInt, -1, 1}, greatest, api.OK},
		{[]int{minInt, minInt, minInt, minInt, minInt, minInt, minInt, minInt}, Num{}, api.OK},
		{[]int{minInt, minInt, minInt, minInt, minInt, maxInt, minInt, maxInt}, Num{Hi: 1}, api.OK},
		{[]int{minInt, maxInt, minInt, maxInt, minInt, 2}, least, api.OK},
		{[]int{minInt, maxInt, minInt, maxInt, minInt, 3}, Num{Hi: maxInt, Lo: 1 << 63}, api.OK},
		{[]int{minInt, maxInt, minInt, maxInt, minInt, 4}, Num{Hi: maxInt}, api.OK},
	} {
		if n, e := Dot(row.l...); n != row.want || e != row.e {
			t.Errorf("Dot of %v: %v, %d, not %v, %d", row.l, n, e, row.want, row.e)
		}
	}
}

// TestDotWords has rows of every length to 200, whose sums go beyond 128 bits too.
func TestDotWords(t *testing.T) {
	r := rand.New(rand.NewSource(86))
	edge := words()
	for n := range 200 {
		l := make([]int, n)
		for i := range l {
			l[i] = drawnWord(r)
			if r.Intn(2) == 0 {
				l[i] = edge[r.Intn(len(edge))]
			}
		}
		before := slices.Clone(l)
		var want Num
		wantE := api.ErrArg
		if n%2 == 0 {
			want, wantE = dotByWords(l), api.OK
		}
		if got, e := Dot(l...); got != want || e != wantE {
			t.Fatalf("Dot of %v: %v, %d, not %v, %d", l, got, e, want, wantE)
		}
		if !slices.Equal(l, before) {
			t.Fatalf("Dot changed %v to %v", before, l)
		}
	}
}

func TestDotMany(t *testing.T) {
	l := make([]int, 200000)
	for i := range l {
		l[i] = minInt
	}
	// 100000 times 2^126: all of it but a multiple of 2^128 is nothing.
	if n, e := Dot(l...); n != (Num{}) || e != api.OK {
		t.Error(n, e)
	}
	if n, e := Dot(l[1:]...); n != (Num{}) || e != api.ErrArg {
		t.Error(n, e)
	}
	if n, e := Dot(l[2:]...); n != (Num{Hi: -1 << 62}) || e != api.OK {
		t.Error(n, e)
	}
}

// TestHandedIn: rows stay as they were, and so does what lies behind them; what is changed later changes no answer.
func TestHandedIn(t *testing.T) {
	whole := []Num{{Lo: maxLo}, {Hi: 1, Lo: 1}, {}, {Hi: 9, Lo: 9}}
	before := slices.Clone(whole)
	a := Num{Hi: 4, Lo: maxLo}
	sum := Add(a, whole[:3]...)
	if want := (Num{Hi: 6, Lo: maxLo}); sum != want {
		t.Error(sum, want)
	}
	if !slices.Equal(whole, before) || a != (Num{Hi: 4, Lo: maxLo}) {
		t.Error("Add changed what was handed in", whole, a)
	}
	whole[0], whole[1] = Num{}, Num{}
	if again := Add(a, before[:3]...); again != sum {
		t.Error(again, sum)
	}
	words := []int{2, 3, -4, 5, 7, 7}
	n, e := Dot(words[:4]...)
	if n != Of(-14) || e != api.OK || !slices.Equal(words, []int{2, 3, -4, 5, 7, 7}) {
		t.Error(n, e, words)
	}
}

// TestSums: in whatever order, and in whatever parts, a sum is one.
func TestSums(t *testing.T) {
	r := rand.New(rand.NewSource(87))
	for range 2000 {
		l := drawnNums(r, 1+r.Intn(12))
		sum := Add(l[0], l[1:]...)
		cut := r.Intn(len(l))
		if got := Add(Add(Num{}, l[:cut]...), Add(Num{}, l[cut:]...)); got != sum {
			t.Fatalf("%v: %v, and in two parts %v", l, sum, got)
		}
		turned := slices.Clone(l)
		r.Shuffle(len(l), func(i, j int) { turned[i], turned[j] = turned[j], turned[i] })
		if got := Add(turned[0], turned[1:]...); got != sum {
			t.Fatalf("%v: %v, and in another order %v", l, sum, got)
		}
		for i, n := range l {
			turned[i] = Neg(n)
		}
		if got := Add(sum, turned...); got != (Num{}) {
			t.Fatalf("%v: %v, and with all of them less %v", l, sum, got)
		}
	}
}

// TestOpposites: a number and 0 less it.
func TestOpposites(t *testing.T) {
	for _, a := range append(nums(), drawnNums(rand.New(rand.NewSource(88)), 2000)...) {
		if Add(a, Neg(a)) != (Num{}) || Add(Neg(a), a) != (Num{}) {
			t.Errorf("%v and %v are not 0 together", a, Neg(a))
		}
		if Neg(Neg(a)) != a {
			t.Errorf("%v becomes %v", a, Neg(Neg(a)))
		}
		if a != least && Sign(Neg(a)) != -Sign(a) {
			t.Errorf("%v and %v have signs that are not opposite", a, Neg(a))
		}
	}
}

// TestProducts: a product with a sum, with an opposite, with 1, and of rows.
func TestProducts(t *testing.T) {
	r := rand.New(rand.NewSource(89))
	edge := words()
	draw := func() int {
		if r.Intn(3) == 0 {
			return edge[r.Intn(len(edge))]
		}
		return drawnWord(r)
	}
	for range 5000 {
		a, b, c := draw(), draw(), draw()
		if sum, ok := Int(Add(Of(b), Of(c))); ok && Mul(a, sum) != Add(Mul(a, b), Mul(a, c)) {
			t.Fatalf("%d times %d and %d", a, b, c)
		}
		if a != minInt && Mul(-a, b) != Neg(Mul(a, b)) {
			t.Fatalf("%d times %d, and less it", a, b)
		}
		if Mul(a, 1) != Of(a) || Mul(a, -1) != Neg(Of(a)) || Mul(a, 0) != (Num{}) {
			t.Fatalf("%d times 1, -1 or 0", a)
		}
		if n, e := Dot(a, b, c, a); n != Add(Mul(a, b), Mul(a, c)) || e != api.OK {
			t.Fatalf("Dot of %d, %d, %d, %d: %v, %d", a, b, c, a, n, e)
		}
		if n, _ := Dot(a, b, b, -a); a != minInt && n != (Num{}) {
			t.Fatalf("Dot of %d, %d, %d, %d: %v", a, b, b, -a, n)
		}
		// Of words the difference has room: its sign is how they compare.
		if got, want := Cmp(Of(a), Of(b)), Sign(Add(Of(a), Neg(Of(b)))); got != want {
			t.Fatalf("Cmp of %d, %d: %d, not %d", a, b, got, want)
		}
	}
}

// TestExamples are the chapter's.
func TestExamples(t *testing.T) {
	if n := Mul(-1, 1); n != (Num{Hi: -1, Lo: 1<<64 - 1}) {
		t.Error(n)
	}
	if n := Mul(1<<62, 4); n != (Num{Hi: 1, Lo: 0}) {
		t.Error(n)
	}
}
