package grid

import (
	"math"
	"math/big"

	"lapidary/api"
)

// The chapter's words, reckoned with fractions of any length, which round nothing and take no bits apart.

const (
	least    = -1 << 31
	greatest = 1<<31 - 1
	nothing  = math.SmallestNonzeroFloat64
	normal   = 0x1p-1022
)

var (
	inf     = math.Inf(1)
	signed0 = math.Copysign(0, -1) // the one with the sign
)

// exact is x times 2^up, of a finite x.
func exact(x float64, up int) *big.Rat {
	r := new(big.Rat).SetFloat64(x)
	return r.Mul(r, new(big.Rat).SetInt(new(big.Int).Lsh(big.NewInt(1), uint(up))))
}

func coordByWords(n *big.Int) bool {
	return n.Cmp(big.NewInt(least)) >= 0 && n.Cmp(big.NewInt(greatest)) <= 0
}

func kindByWords(x float64) int {
	switch {
	case math.IsNaN(x):
		return 0
	case math.IsInf(x, 1):
		return 1
	case math.IsInf(x, -1):
		return 2
	case x == 0 && !math.Signbit(x):
		return 3
	case x == 0:
		return 4
	case math.Abs(x) < normal:
		return 5
	}
	return 6
}

func sameByWords(a, b float64) bool {
	if math.IsNaN(a) && math.IsNaN(b) {
		return true
	}
	for bit := range 64 {
		if math.Float64bits(a)>>bit&1 != math.Float64bits(b)>>bit&1 {
			return false
		}
	}
	return true
}

func scaledByWords(x float64, up int) (int, api.Errno) {
	switch {
	case up < 0 || up > 30:
		return 0, api.ErrArg
	case math.IsNaN(x):
		return 0, api.ErrNaN
	case math.IsInf(x, 0) || x == 0 && math.Signbit(x):
		return 0, api.ErrGrid
	}
	r := exact(x, up)
	if !r.IsInt() || !coordByWords(r.Num()) {
		return 0, api.ErrGrid
	}
	return int(r.Num().Int64()), api.OK
}

// roundByWords holds the whole number below x and the one above it against x.
func roundByWords(x float64) (int, api.Errno) {
	switch {
	case math.IsNaN(x):
		return 0, api.ErrNaN
	case math.IsInf(x, 0):
		return 0, api.ErrLong
	}
	r := exact(x, 0)
	low := new(big.Int).Div(r.Num(), r.Denom()) // the one below, as the denominator is above 0
	high := new(big.Int).Add(low, big.NewInt(1))
	toLow := new(big.Rat).Sub(r, new(big.Rat).SetInt(low))
	toHigh := new(big.Rat).Sub(new(big.Rat).SetInt(high), r)
	next := low
	if c := toLow.Cmp(toHigh); c > 0 || c == 0 && low.Bit(0) == 1 {
		next = high
	}
	if !coordByWords(next) {
		return 0, api.ErrLong
	}
	return int(next.Int64()), api.OK
}

func pointsByWords(up int, l []float64) ([]api.Point, api.Errno) {
	if up < 0 || up > 30 || len(l)%2 == 1 {
		return nil, api.ErrArg
	}
	var n []int
	for _, x := range l {
		c, e := scaledByWords(x, up)
		if e != api.OK {
			return nil, e
		}
		n = append(n, c)
	}
	var points []api.Point
	for ; len(n) > 0; n = n[2:] {
		points = append(points, api.Point{X: n[0], Y: n[1]})
	}
	return points, api.OK
}

// around is x, and the two floats next to it on either side.
func around(x float64) []float64 {
	up, down := math.Nextafter(x, inf), math.Nextafter(x, -inf)
	return []float64{x, up, math.Nextafter(up, inf), down, math.Nextafter(down, -inf)}
}

func bothSigns(l []float64) []float64 {
	var both []float64
	for _, x := range l {
		both = append(both, x, math.Copysign(x, -1))
	}
	return both
}

// nans are what is no number, of several bits.
func nans() []float64 {
	var l []float64
	for _, payload := range []uint64{1, 2, 1 << 20, 1 << 50, 1<<51 - 1, 1 << 51, 1<<51 + 1, 1<<52 - 2, 1<<52 - 1} {
		l = append(l, math.Float64frombits(0x7ff<<52|payload), math.Float64frombits(0xfff<<52|payload))
	}
	return append(l, math.NaN())
}

// edges are the numbers at which something changes.
func edges() []float64 {
	l := []float64{0, nothing, 2 * nothing, 3 * nothing, math.Nextafter(normal, 0), normal, math.Nextafter(normal, 1), math.MaxFloat64, math.Nextafter(math.MaxFloat64, 0), inf}
	for _, whole := range []float64{1, 2, 3, 4, 5, 100, 101, 1<<16 - 1, 1 << 16, 1<<30 - 1, 1 << 30, 1<<30 + 1, greatest - 2, greatest - 1, greatest, 1 << 31, 1<<31 + 1, 1<<31 + 2, 1<<32 - 1, 1 << 32, 1<<32 + 1, 1 << 33, 1<<51 - 1, 1 << 51, 1<<52 - 1, 1 << 52, 1<<52 + 1, 1<<53 - 1, 1 << 53, 1<<53 + 2, 1 << 62, 1 << 63, 1 << 64} {
		for _, off := range []float64{0, 0.25, 0.5, 0.75, -0.25, -0.5, -0.75} {
			l = append(l, around(whole+off)...)
		}
	}
	l = append(l, around(0.5)...)
	l = append(l, around(0.25)...)
	return append(bothSigns(l), nans()...)
}

// powers are those of 2, from the least to the greatest.
func powers() []float64 {
	var l []float64
	for p := -1074; p <= 1023; p++ {
		l = append(l, math.Ldexp(1, p))
	}
	return bothSigns(l)
}

// onGrid are, for one up, numbers that are just on the grid and just off it, just coordinates and just none.
func onGrid(up int) []float64 {
	var l []float64
	for _, n := range []float64{0, 1, 2, 3, 5, 7, 12345, 1<<30 - 1, 1 << 30, 1<<30 + 1, greatest - 1, greatest, 1 << 31, 1<<31 + 1, 1<<32 - 1, 1 << 32} {
		for _, off := range []float64{0, 0.5, -0.5, 0.25} {
			l = append(l, around(math.Ldexp(n+off, -up))...)
		}
	}
	return bothSigns(l)
}
