package grid

import (
	"math"
	"math/rand"
	"slices"
	"testing"

	"lapidary/api"
)

// ups are those that may be; noUps are none.
func ups() []int {
	var l []int
	for up := 0; up <= 30; up++ {
		l = append(l, up)
	}
	return l
}

var noUps = []int{-1, 31, -2, 32, 52, 63, 64, 1 << 32, -1 << 32, 1<<32 + 3, math.MinInt, math.MaxInt}

// coords are those at the edges and between; noCoords are none.
var (
	coords   = []int{0, 1, -1, 2, -2, 3, -3, 7, 12345, -12345, 1<<16 - 1, 1 << 16, -1 << 16, 1<<30 - 1, 1 << 30, 1<<30 + 1, -1 << 30, -1<<30 - 1, greatest - 2, greatest - 1, greatest, least, least + 1, least + 2}
	noCoords = []int{greatest + 1, least - 1, greatest + 2, least - 2, 1 << 32, -1 << 32, 1<<32 + 1, 1 << 52, 1<<53 + 1, math.MinInt, math.MaxInt}
)

// drawn are floats of any bits, and such as come near the grid.
func drawn(n int) []float64 {
	r := rand.New(rand.NewSource(7))
	var l []float64
	for range n {
		l = append(l,
			math.Float64frombits(r.Uint64()),
			float64(r.Int63n(1<<33)-1<<32),
			math.Ldexp(float64(r.Int63n(1<<34)-1<<33), -r.Intn(34)),
			math.Float64frombits(r.Uint64()&(1<<52-1|1<<63)|uint64(1023-3+r.Intn(40))<<52))
	}
	return l
}

// all are the edges, the powers, and some that were drawn.
func all() []float64 {
	return slices.Concat(edges(), powers(), drawn(500))
}

func TestKind(t *testing.T) {
	for _, row := range []struct {
		x    float64
		want int
	}{
		{math.NaN(), 0},
		{math.Float64frombits(0x7ff0000000000001), 0},
		{math.Float64frombits(0xfff0000000000001), 0},
		{math.Float64frombits(0x7fffffffffffffff), 0},
		{math.Float64frombits(0xffffffffffffffff), 0},
		{math.Float64frombits(0x7ff8000000000000), 0},
		{math.Float64frombits(0x7ff0000000000000), 1},
		{math.Float64frombits(0xfff0000000000000), 2},
		{0, 3},
		{math.Float64frombits(1 << 63), 4},
		{math.Float64frombits(1), 5},
		{math.Float64frombits(1<<63 | 1), 5},
		{math.Float64frombits(0x000fffffffffffff), 5},
		{math.Float64frombits(0x800fffffffffffff), 5},
		{0x1p-1022, 6},
		{-0x1p-1022, 6},
		{1, 6},
		{-1, 6},
		{0.1, 6},
		{math.MaxFloat64, 6},
		{-math.MaxFloat64, 6},
	} {
		if k := Kind(row.x); k != row.want {
			t.Errorf("Kind of %x: %d, not %d", math.Float64bits(row.x), k, row.want)
		}
	}
	for _, x := range all() {
		if k, want := Kind(x), kindByWords(x); k != want {
			t.Errorf("Kind of %x: %d, not %d", math.Float64bits(x), k, want)
		}
	}
}

func TestSame(t *testing.T) {
	for _, row := range []struct {
		a, b float64
		want bool
	}{
		{0, 0, true},
		{0, signed0, false},
		{signed0, 0, false},
		{signed0, signed0, true},
		{inf, inf, true},
		{inf, -inf, false},
		{math.Float64frombits(0x7ff0000000000001), math.Float64frombits(0xffffffffffffffff), true},
		{math.NaN(), inf, false},
		{-inf, math.NaN(), false},
		{math.NaN(), 1, false},
		{1, 1, true},
		{1, math.Nextafter(1, 2), false},
		{nothing, 0, false},
		{nothing, nothing, true},
		{0.1 + 0.2, 0.3, true}, // both are constants, and so reckoned without rounding
	} {
		if got := Same(row.a, row.b); got != row.want {
			t.Errorf("Same of %x, %x: %t", math.Float64bits(row.a), math.Float64bits(row.b), got)
		}
	}
	l := append(edges(), drawn(20)...)
	for _, a := range l {
		for _, b := range l {
			if got := Same(a, b); got != sameByWords(a, b) {
				t.Fatalf("Same of %x, %x: %t", math.Float64bits(a), math.Float64bits(b), got)
			}
		}
	}
}

// TestSameBits changes one bit after the other.
func TestSameBits(t *testing.T) {
	for _, x := range []float64{0, 1, -1, 2.5, nothing, math.MaxFloat64} {
		for bit := range 64 {
			y := math.Float64frombits(math.Float64bits(x) ^ 1<<bit)
			if Same(x, y) || Same(y, x) {
				t.Errorf("%x and another bit %d are the same", math.Float64bits(x), bit)
			}
		}
	}
}

func TestInt(t *testing.T) {
	for _, row := range []struct {
		x float64
		n int
		e api.Errno
	}{
		{3, 3, api.OK},
		{-3, -3, api.OK},
		{0, 0, api.OK},
		{signed0, 0, api.ErrGrid},
		{math.NaN(), 0, api.ErrNaN},
		{math.Float64frombits(0xfff0000000000001), 0, api.ErrNaN},
		{inf, 0, api.ErrGrid},
		{-inf, 0, api.ErrGrid},
		{0.5, 0, api.ErrGrid},
		{2.25, 0, api.ErrGrid},
		{math.Nextafter(2, 3), 0, api.ErrGrid},
		{math.Nextafter(2, 1), 0, api.ErrGrid},
		{nothing, 0, api.ErrGrid},
		{-nothing, 0, api.ErrGrid},
		{0x1p-1022, 0, api.ErrGrid},
		{greatest, greatest, api.OK},
		{greatest + 0.5, 0, api.ErrGrid},
		{greatest + 1, 0, api.ErrGrid},
		{math.Nextafter(greatest, inf), 0, api.ErrGrid},
		{math.Nextafter(greatest, 0), 0, api.ErrGrid},
		{least, least, api.OK},
		{least - 0.5, 0, api.ErrGrid},
		{least - 1, 0, api.ErrGrid},
		{math.Nextafter(least, -inf), 0, api.ErrGrid},
		{math.Nextafter(least, 0), 0, api.ErrGrid},
		{1 << 52, 0, api.ErrGrid},
		{1 << 53, 0, api.ErrGrid},
		{1 << 63, 0, api.ErrGrid},
		{1 << 64, 0, api.ErrGrid},
		{1<<64 + 1<<12, 0, api.ErrGrid},
		{math.MaxFloat64, 0, api.ErrGrid},
		{-math.MaxFloat64, 0, api.ErrGrid},
	} {
		if n, e := Int(row.x); n != row.n || e != row.e {
			t.Errorf("Int of %v: %d, %d, not %d, %d", row.x, n, e, row.n, row.e)
		}
	}
	for _, x := range all() {
		n, e := Int(x)
		if want, wantE := scaledByWords(x, 0); n != want || e != wantE {
			t.Errorf("Int of %v (%x): %d, %d, not %d, %d", x, math.Float64bits(x), n, e, want, wantE)
		}
	}
}

func TestScaled(t *testing.T) {
	for _, row := range []struct {
		x  float64
		up int
		n  int
		e  api.Errno
	}{
		{0.75, 2, 3, api.OK},
		{0.75, 1, 0, api.ErrGrid},
		{0.75, 3, 6, api.OK},
		{-0.75, 2, -3, api.OK},
		{0x1p-30, 30, 1, api.OK},
		{-0x1p-30, 30, -1, api.OK},
		{0x1p-31, 30, 0, api.ErrGrid},
		{0x1.8p-30, 30, 0, api.ErrGrid},
		{0x1p-30, 29, 0, api.ErrGrid},
		{2, 30, 0, api.ErrGrid},
		{2 - 0x1p-30, 30, greatest, api.OK},
		{2 - 0x1p-31, 30, 0, api.ErrGrid},
		{-2, 30, least, api.OK},
		{-2 - 0x1p-30, 30, 0, api.ErrGrid},
		{1 << 30, 1, 0, api.ErrGrid},
		{-1 << 30, 1, least, api.OK},
		{1<<30 - 0.5, 1, greatest, api.OK},
		{0, 30, 0, api.OK},
		{signed0, 30, 0, api.ErrGrid},
		{inf, 30, 0, api.ErrGrid},
		{-inf, 0, 0, api.ErrGrid},
		{math.NaN(), 30, 0, api.ErrNaN},
		{nothing, 30, 0, api.ErrGrid},
		{math.MaxFloat64, 30, 0, api.ErrGrid},
		{1, -1, 0, api.ErrArg},
		{2, -1, 0, api.ErrArg},
		{1, 31, 0, api.ErrArg},
		{0, 31, 0, api.ErrArg},
		{0, math.MaxInt, 0, api.ErrArg},
		{0, math.MinInt, 0, api.ErrArg},
		{math.NaN(), 31, 0, api.ErrArg},
		{math.NaN(), -1, 0, api.ErrArg},
		{inf, -1, 0, api.ErrArg},
		{signed0, 31, 0, api.ErrArg},
		{0.5, -1, 0, api.ErrArg},
	} {
		if n, e := Scaled(row.x, row.up); n != row.n || e != row.e {
			t.Errorf("Scaled of %v, %d: %d, %d, not %d, %d", row.x, row.up, n, e, row.n, row.e)
		}
	}
}

// TestScaledWords holds it against the words, with each up.
func TestScaledWords(t *testing.T) {
	l := slices.Concat(edges(), drawn(50))
	for p := -1074; p <= 1023; p += 7 {
		l = append(l, math.Ldexp(1, p), math.Ldexp(-1, p))
	}
	for p := -64; p <= 64; p++ {
		l = append(l, math.Ldexp(1, p), math.Ldexp(-1, p))
	}
	for _, up := range append(ups(), noUps...) {
		for _, x := range append(onGrid(max(0, min(up, 30))), l...) {
			n, e := Scaled(x, up)
			if want, wantE := scaledByWords(x, up); n != want || e != wantE {
				t.Errorf("Scaled of %v (%x), %d: %d, %d, not %d, %d", x, math.Float64bits(x), up, n, e, want, wantE)
			}
		}
	}
}

// TestOnGrid has, for each up, numbers whose answers are plain.
func TestOnGrid(t *testing.T) {
	for _, up := range ups() {
		one := math.Ldexp(1, -up) // as fine as the grid is
		for _, row := range []struct {
			x float64
			n int
			e api.Errno
		}{
			{one, 1, api.OK},
			{-one, -1, api.OK},
			{3 * one, 3, api.OK},
			{one / 2, 0, api.ErrGrid},
			{one * 1.5, 0, api.ErrGrid},
			{math.Nextafter(one, 2), 0, api.ErrGrid},
			{math.Nextafter(one, 0), 0, api.ErrGrid},
			{greatest * one, greatest, api.OK},
			{(greatest + 1) * one, 0, api.ErrGrid},
			{(greatest + 0.5) * one, 0, api.ErrGrid},
			{least * one, least, api.OK},
			{(least - 1) * one, 0, api.ErrGrid},
			{(least - 0.5) * one, 0, api.ErrGrid},
			{math.Nextafter(least*one, -inf), 0, api.ErrGrid},
			{math.Nextafter(least*one, inf), 0, api.ErrGrid},
		} {
			if n, e := Scaled(row.x, up); n != row.n || e != row.e {
				t.Errorf("Scaled of %v, %d: %d, %d, not %d, %d", row.x, up, n, e, row.n, row.e)
			}
		}
	}
}

func TestFloat(t *testing.T) {
	for _, row := range []struct {
		n, up int
		bits  uint64
		e     api.Errno
	}{
		{0, 0, 0, api.OK},
		{0, 30, 0, api.OK},
		{1, 0, 0x3ff0000000000000, api.OK},
		{3, 2, 0x3fe8000000000000, api.OK},
		{-3, 2, 0xbfe8000000000000, api.OK},
		{1, 30, 0x3e10000000000000, api.OK},
		{greatest, 0, 0x41dfffffffc00000, api.OK},
		{least, 0, 0xc1e0000000000000, api.OK},
		{least, 30, 0xc000000000000000, api.OK},
		{greatest, 30, 0x3fffffffffc00000, api.OK},
		{greatest + 1, 0, 0, api.ErrArg},
		{least - 1, 0, 0, api.ErrArg},
		{greatest + 1, 30, 0, api.ErrArg},
		{1, -1, 0, api.ErrArg},
		{1, 31, 0, api.ErrArg},
		{0, -1, 0, api.ErrArg},
		{0, 31, 0, api.ErrArg},
		{least - 1, 31, 0, api.ErrArg},
		{math.MaxInt, math.MaxInt, 0, api.ErrArg},
		{math.MinInt, math.MinInt, 0, api.ErrArg},
	} {
		if x, e := Float(row.n, row.up); math.Float64bits(x) != row.bits || e != row.e {
			t.Errorf("Float of %d, %d: %x, %d, not %x, %d", row.n, row.up, math.Float64bits(x), e, row.bits, row.e)
		}
	}
	for _, up := range noUps {
		for _, n := range append(noCoords, coords...) {
			if x, e := Float(n, up); math.Float64bits(x) != 0 || e != api.ErrArg {
				t.Errorf("Float of %d, %d: %v, %d", n, up, x, e)
			}
		}
	}
	for _, up := range ups() {
		for _, n := range noCoords {
			if x, e := Float(n, up); math.Float64bits(x) != 0 || e != api.ErrArg {
				t.Errorf("Float of %d, %d: %v, %d", n, up, x, e)
			}
		}
	}
}

// TestThereAndBack goes from coordinates to floats and from floats to coordinates, with each up.
func TestThereAndBack(t *testing.T) {
	r := rand.New(rand.NewSource(70))
	whole := slices.Clone(coords)
	for range 200 {
		whole = append(whole, r.Intn(1<<32)+least, r.Intn(1<<12)-1<<11)
	}
	for _, up := range ups() {
		for _, n := range whole {
			x, e := Float(n, up)
			if want := math.Ldexp(float64(n), -up); e != api.OK || math.Float64bits(x) != math.Float64bits(want) {
				t.Fatalf("Float of %d, %d: %v, %d", n, up, x, e)
			}
			if back, e := Scaled(x, up); back != n || e != api.OK {
				t.Fatalf("%d, %d: %d, %d comes back", n, up, back, e)
			}
		}
		for _, x := range append(onGrid(up), drawn(20)...) {
			n, e := Scaled(x, up)
			if e != api.OK {
				continue
			}
			if back, e := Float(n, up); e != api.OK || math.Float64bits(back) != math.Float64bits(x) {
				t.Fatalf("%v, %d: %v, %d comes back", x, up, back, e)
			}
		}
	}
}

func TestRound(t *testing.T) {
	for _, row := range []struct {
		x float64
		n int
		e api.Errno
	}{
		{2.5, 2, api.OK},
		{3.5, 4, api.OK},
		{-2.5, -2, api.OK},
		{-3.5, -4, api.OK},
		{0.5, 0, api.OK},
		{-0.5, 0, api.OK},
		{1.5, 2, api.OK},
		{-1.5, -2, api.OK},
		{math.Nextafter(0.5, 0), 0, api.OK},
		{math.Nextafter(0.5, 1), 1, api.OK},
		{math.Nextafter(-0.5, -1), -1, api.OK},
		{math.Nextafter(2.5, 3), 3, api.OK},
		{math.Nextafter(2.5, 2), 2, api.OK},
		{math.Nextafter(3.5, 3), 3, api.OK},
		{math.Nextafter(-3.5, -3), -3, api.OK},
		{0.25, 0, api.OK},
		{0.75, 1, api.OK},
		{-0.75, -1, api.OK},
		{0, 0, api.OK},
		{signed0, 0, api.OK},
		{nothing, 0, api.OK},
		{-nothing, 0, api.OK},
		{0x1p-1022, 0, api.OK},
		{-0x1p-1022, 0, api.OK},
		{7, 7, api.OK},
		{-7, -7, api.OK},
		{greatest, greatest, api.OK},
		{greatest + 0.25, greatest, api.OK},
		{math.Nextafter(1<<31-0.5, 0), greatest, api.OK},
		{1<<31 - 0.5, 0, api.ErrLong},
		{math.Nextafter(1<<31-0.5, inf), 0, api.ErrLong},
		{1 << 31, 0, api.ErrLong},
		{greatest - 0.5, greatest - 1, api.OK},
		{least, least, api.OK},
		{least - 0.25, least, api.OK},
		{math.Nextafter(least-0.5, 0), least, api.OK},
		{least - 0.5, least, api.OK},
		{math.Nextafter(least-0.5, -inf), 0, api.ErrLong},
		{least - 1, 0, api.ErrLong},
		{1 << 52, 0, api.ErrLong},
		{1 << 64, 0, api.ErrLong},
		{-1 << 64, 0, api.ErrLong},
		{math.MaxFloat64, 0, api.ErrLong},
		{-math.MaxFloat64, 0, api.ErrLong},
		{inf, 0, api.ErrLong},
		{-inf, 0, api.ErrLong},
		{math.NaN(), 0, api.ErrNaN},
		{math.Float64frombits(0x7ff0000000000001), 0, api.ErrNaN},
		{math.Float64frombits(0xffffffffffffffff), 0, api.ErrNaN},
	} {
		if n, e := Round(row.x); n != row.n || e != row.e {
			t.Errorf("Round of %v: %d, %d, not %d, %d", row.x, n, e, row.n, row.e)
		}
	}
	for _, x := range all() {
		n, e := Round(x)
		if want, wantE := roundByWords(x); n != want || e != wantE {
			t.Errorf("Round of %v (%x): %d, %d, not %d, %d", x, math.Float64bits(x), n, e, want, wantE)
		}
	}
}

func TestPoints(t *testing.T) {
	nan := math.NaN()
	for i, row := range []struct {
		up   int
		l    []float64
		want []api.Point
		e    api.Errno
	}{
		{0, nil, nil, api.OK},
		{0, []float64{}, nil, api.OK},
		{30, nil, nil, api.OK},
		{-1, nil, nil, api.ErrArg},
		{31, []float64{}, nil, api.ErrArg},
		{0, []float64{1}, nil, api.ErrArg},
		{0, []float64{1, 2}, []api.Point{{X: 1, Y: 2}}, api.OK},
		{1, []float64{0.5, 2, -1, 0}, []api.Point{{X: 1, Y: 4}, {X: -2}}, api.OK},
		{2, []float64{0.75, 0.75, 0.75, 0.75}, []api.Point{{X: 3, Y: 3}, {X: 3, Y: 3}}, api.OK},
		{0, []float64{least, greatest}, []api.Point{{X: least, Y: greatest}}, api.OK},
		{0, []float64{1, 2, 3}, nil, api.ErrArg},
		{31, []float64{1, 2, 3}, nil, api.ErrArg},
		{31, []float64{1, 2}, nil, api.ErrArg},
		{-1, []float64{nan, 2}, nil, api.ErrArg},
		{0, []float64{nan}, nil, api.ErrArg},
		{0, []float64{0.5, nan, 1}, nil, api.ErrArg},
		{0, []float64{1, 2, nan}, nil, api.ErrArg},
		{0, []float64{1, nan}, nil, api.ErrNaN},
		{0, []float64{nan, 1}, nil, api.ErrNaN},
		{0, []float64{nan, 0.5}, nil, api.ErrNaN},
		{0, []float64{0.5, nan}, nil, api.ErrGrid},
		{0, []float64{1, 2, 0.5, 3, nan, nan}, nil, api.ErrGrid},
		{0, []float64{1, 2, 3, nan, 0.5, 0.5}, nil, api.ErrNaN},
		{0, []float64{1, nan, 0.5, 2}, nil, api.ErrNaN},
		{0, []float64{1, 0.5, nan, 2}, nil, api.ErrGrid},
		{0, []float64{1, 2, 3, signed0}, nil, api.ErrGrid},
		{0, []float64{1, 2, 3, inf}, nil, api.ErrGrid},
		{30, []float64{1, 2}, nil, api.ErrGrid},
	} {
		before := bitsOf(row.l)
		p, e := Points(row.up, row.l...)
		if !slices.Equal(p, row.want) || e != row.e {
			t.Errorf("row %d: %v, %d, not %v, %d", i, p, e, row.want, row.e)
		}
		if !slices.Equal(before, bitsOf(row.l)) {
			t.Errorf("row %d was changed", i)
		}
	}
}

func bitsOf(l []float64) []uint64 {
	var bits []uint64
	for _, x := range l {
		bits = append(bits, math.Float64bits(x))
	}
	return bits
}

// TestPointsWords holds rows of many numbers against the words, with one that is wrong, two or none.
func TestPointsWords(t *testing.T) {
	r := rand.New(rand.NewSource(77))
	wrong := []float64{math.NaN(), math.Float64frombits(0xfff0000000000001), inf, -inf, signed0, 0x1p-31, nothing, 1 << 31}
	for range 3000 {
		up := r.Intn(33) - 1
		l := make([]float64, r.Intn(40))
		for i := range l {
			l[i] = math.Ldexp(float64(r.Int63n(1<<32)+least), -max(0, min(up, 30)))
		}
		for range r.Intn(3) {
			if len(l) > 0 {
				l[r.Intn(len(l))] = wrong[r.Intn(len(wrong))]
			}
		}
		before := bitsOf(l)
		p, e := Points(up, l...)
		want, wantE := pointsByWords(up, l)
		if !slices.Equal(p, want) || e != wantE {
			t.Fatalf("Points of %d, %v: %v, %d, not %v, %d", up, l, p, e, want, wantE)
		}
		if e != api.OK && len(p) != 0 {
			t.Fatalf("Points of %d, %v: %v beside %d", up, l, p, e)
		}
		if !slices.Equal(before, bitsOf(l)) {
			t.Fatalf("Points changed %v", before)
		}
	}
}

// TestPointsMany has so many numbers that one out of place would show.
func TestPointsMany(t *testing.T) {
	var l []float64
	for i := range 100000 {
		l = append(l, float64(i)/4)
	}
	p, e := Points(2, l...)
	if len(p) != 50000 || e != api.OK {
		t.Fatal(len(p), e)
	}
	for i, q := range p {
		if q != (api.Point{X: 2 * i, Y: 2*i + 1}) {
			t.Fatal(i, q)
		}
	}
	l[len(l)-1] = 0.125
	if p, e := Points(2, l...); len(p) != 0 || e != api.ErrGrid {
		t.Error(len(p), e)
	}
}

// TestPointsMemory: what comes out is new memory, with no room behind it that is somebody else's.
func TestPointsMemory(t *testing.T) {
	l := []float64{1, 2, 3, 4, 5, 6}
	a, _ := Points(0, l...)
	b, _ := Points(0, l...)
	l[0], l[5] = 9, 9
	want := []api.Point{{X: 1, Y: 2}, {X: 3, Y: 4}, {X: 5, Y: 6}}
	if !slices.Equal(a, want) {
		t.Error("numbers that changed later changed points", a)
	}
	for i := range a {
		a[i] = api.Point{X: 7, Y: 7, Z: 7}
	}
	room := a[:cap(a)]
	for i := range room {
		room[i] = api.Point{X: 8, Y: 8, Z: 8}
	}
	_ = append(a, api.Point{X: 6})
	if !slices.Equal(b, want) {
		t.Error("two answers share memory", b)
	}
	if c, _ := Points(0, 1, 2, 3, 4, 5, 6); !slices.Equal(c, want) {
		t.Error("a later answer is of earlier memory", c)
	}
	if l[0] != 9 || l[5] != 9 || l[1] != 2 {
		t.Error("an answer shares memory with what was handed in", l)
	}
	whole := []float64{1, 2, 3, 4, 0.5, 0.5}
	if p, e := Points(0, whole[:4]...); len(p) != 2 || e != api.OK || whole[4] != 0.5 || whole[5] != 0.5 {
		t.Error("what lies behind a row is not of it", p, e, whole)
	}
}

// TestAgain: what a call answers does not hang on what was asked before.
func TestAgain(t *testing.T) {
	for _, x := range edges() {
		n, e := Round(x)
		m, f := Scaled(x, 3)
		Points(3, math.NaN(), 1)
		Int(signed0)
		if n2, e2 := Round(x); n2 != n || e2 != e {
			t.Errorf("Round of %v: %d, %d, and then %d, %d", x, n, e, n2, e2)
		}
		if m2, f2 := Scaled(x, 3); m2 != m || f2 != f {
			t.Errorf("Scaled of %v: %d, %d, and then %d, %d", x, m, f, m2, f2)
		}
	}
}

// TestExamples are the chapter's.
func TestExamples(t *testing.T) {
	if n, e := Int(3); n != 3 || e != api.OK {
		t.Error(n, e)
	}
	if n, e := Int(math.Copysign(0, -1)); n != 0 || e != api.ErrGrid {
		t.Error(n, e)
	}
	if n, e := Scaled(0.75, 2); n != 3 || e != api.OK {
		t.Error(n, e)
	}
	if n, e := Round(2.5); n != 2 || e != api.OK {
		t.Error(n, e)
	}
	if n, e := Round(-3.5); n != -4 || e != api.OK {
		t.Error(n, e)
	}
}
