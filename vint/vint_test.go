package vint

import (
	"bytes"
	"encoding/binary"
	"math"
	"slices"
	"testing"

	"lapidary/api"
)

// edges are numbers at which the count of bytes changes, in either form, and those beside them.
func edges() []uint64 {
	l := []uint64{0, 1, 2, 63, 64, 258, 300, math.MaxInt64, math.MaxUint64 - 1, math.MaxUint64}
	for bit := 7; bit < 64; bit++ {
		n := uint64(1) << bit
		l = append(l, n-1, n, n+1)
	}
	return l
}

// row is count bytes c, and then the rest.
func row(count int, c byte, rest ...byte) []byte {
	return append(bytes.Repeat([]byte{c}, count), rest...)
}

func TestPut(t *testing.T) {
	for _, x := range []struct {
		l    []uint64
		want []byte
	}{
		{nil, nil},
		{[]uint64{0}, []byte{0}},
		{[]uint64{1}, []byte{1}},
		{[]uint64{127}, []byte{127}},
		{[]uint64{128}, []byte{128, 1}},
		{[]uint64{300}, []byte{0xac, 2}},
		{[]uint64{1<<14 - 1}, []byte{255, 127}},
		{[]uint64{1 << 14}, []byte{128, 128, 1}},
		{[]uint64{1<<63 - 1}, row(8, 255, 127)},
		{[]uint64{1 << 63}, row(9, 128, 1)},
		{[]uint64{math.MaxUint64}, row(9, 255, 1)},
		{[]uint64{0, 300, 0, 128, 5}, []byte{0, 0xac, 2, 0, 128, 1, 5}},
	} {
		if b := Put(x.l...); !bytes.Equal(b, x.want) {
			t.Errorf("Put(%d): % x, not % x", x.l, b, x.want)
		}
	}
}

func TestPutTakesFewestBytes(t *testing.T) {
	for _, n := range edges() {
		if b, want := Put(n), binary.AppendUvarint(nil, n); !bytes.Equal(b, want) {
			t.Errorf("Put(%d): % x, not % x", n, b, want)
		}
	}
}

func TestGetReadsWhatPutWrote(t *testing.T) {
	for _, n := range edges() {
		b := Put(n)
		if m, to, e := Get(b, 0); m != n || to != len(b) || e != api.OK {
			t.Errorf("Get(% x, 0): %d %d %d", b, m, to, e)
		}
		among := append(append([]byte{255, 0, 128}, b...), 7)
		if m, to, e := Get(among, 3); m != n || to != 3+len(b) || e != api.OK {
			t.Errorf("Get(% x, 3): %d %d %d", among, m, to, e)
		}
		for end := range b {
			if m, to, e := Get(b[:end], 0); m != 0 || to != 0 || e != api.ErrShort {
				t.Errorf("Get(% x, 0): %d %d %d", b[:end], m, to, e)
			}
		}
	}
}

func TestGetPlace(t *testing.T) {
	b := []byte{0xac, 2, 9}
	for _, x := range []struct {
		at, to int
		n      uint64
		e      api.Errno
	}{
		{math.MinInt, 0, 0, api.ErrArg},
		{-1, 0, 0, api.ErrArg},
		{0, 2, 300, api.OK},
		{1, 2, 2, api.OK},
		{2, 3, 9, api.OK},
		{3, 0, 0, api.ErrShort},
		{4, 0, 0, api.ErrArg},
		{math.MaxInt, 0, 0, api.ErrArg},
	} {
		if n, to, e := Get(b, x.at); n != x.n || to != x.to || e != x.e {
			t.Errorf("Get(% x, %d): %d %d %d", b, x.at, n, to, e)
		}
	}
	for at, want := range map[int]api.Errno{-1: api.ErrArg, 0: api.ErrShort, 1: api.ErrArg} {
		for _, none := range [][]byte{nil, {}} {
			if n, to, e := Get(none, at); n != 0 || to != 0 || e != want {
				t.Errorf("Get of nothing at %d: %d %d %d", at, n, to, e)
			}
		}
	}
	// Room behind a list is none of its bytes.
	if n, to, e := Get(b[:1], 0); n != 0 || to != 0 || e != api.ErrShort {
		t.Errorf("Get with room behind: %d %d %d", n, to, e)
	}
}

func TestGetRefuses(t *testing.T) {
	for _, x := range []struct {
		b []byte
		e api.Errno
	}{
		{[]byte{128}, api.ErrShort},
		{[]byte{128, 0}, api.ErrForm},
		{[]byte{0xac, 0x82, 0}, api.ErrForm},
		{[]byte{255, 0, 1}, api.ErrForm},
		{row(8, 255), api.ErrShort},
		{row(8, 255, 0), api.ErrForm},
		{row(9, 255), api.ErrShort},
		{row(9, 128), api.ErrShort},
		{row(9, 255, 0), api.ErrForm},
		{row(9, 128, 0), api.ErrForm},
		{row(9, 255, 2), api.ErrForm},
		{row(9, 128, 2), api.ErrForm},
		{row(9, 255, 127), api.ErrForm},
		{row(10, 128), api.ErrForm},
		{row(10, 255), api.ErrForm},
		{row(9, 255, 129, 0), api.ErrForm},
		{row(10, 128, 1), api.ErrForm},
		{row(1000, 255), api.ErrForm},
	} {
		for at := range 3 {
			b := append(make([]byte, at), x.b...)
			if n, to, e := Get(b, at); n != 0 || to != 0 || e != x.e {
				t.Errorf("Get(% x, %d): %d %d %d, not %d", b, at, n, to, e, x.e)
			}
		}
	}
}

// told is what the chapter says of Get, word by word in its order.
func told(b []byte) (uint64, int, api.Errno) {
	first := slices.IndexFunc(b, func(c byte) bool { return c < 128 })
	switch {
	case len(b) >= 10 && (first < 0 || first >= 9) && b[9] > 1:
		return 0, 0, api.ErrForm
	case first < 0:
		return 0, 0, api.ErrShort
	case first > 0 && b[first] == 0:
		return 0, 0, api.ErrForm
	}
	n := uint64(0)
	for i := first; i >= 0; i-- {
		n = n*128 + uint64(b[i]%128)
	}
	return n, first + 1, api.OK
}

func TestGetIsAsTold(t *testing.T) {
	digits := []byte{0, 1, 2, 127, 128, 129, 255}
	for lead := range 12 {
		for _, c := range []byte{128, 129, 255} {
			for _, x := range digits {
				for _, y := range digits {
					for end := range 3 {
						b := row(lead, c, []byte{x, y}[:end]...)
						n, to, e := Get(b, 0)
						if wn, wto, we := told(b); n != wn || to != wto || e != we {
							t.Errorf("Get(% x, 0): %d %d %d, not %d %d %d", b, n, to, e, wn, wto, we)
						}
					}
				}
			}
		}
	}
}

func TestAll(t *testing.T) {
	for _, x := range []struct {
		b    []byte
		want []uint64
		e    api.Errno
	}{
		{nil, nil, api.OK},
		{[]byte{}, nil, api.OK},
		{[]byte{0}, []uint64{0}, api.OK},
		{[]byte{0, 0}, []uint64{0, 0}, api.OK},
		{[]byte{1, 0xac, 2, 7}, []uint64{1, 300, 7}, api.OK},
		{row(9, 255, 1, 0), []uint64{math.MaxUint64, 0}, api.OK},
		{[]byte{1, 128}, nil, api.ErrShort},
		{[]byte{1, 128, 0}, nil, api.ErrForm},
		{[]byte{128, 0, 128}, nil, api.ErrForm},
		{[]byte{1, 2, 0xac, 0x82, 0, 128}, nil, api.ErrForm},
		{row(9, 255, 2), nil, api.ErrForm},
		{row(9, 255), nil, api.ErrShort},
	} {
		l, e := All(x.b)
		if e != x.e || !slices.Equal(l, x.want) {
			t.Errorf("All(% x): %d %d", x.b, l, e)
		}
	}
	if l, e := All(Put(edges()...)); e != api.OK || !slices.Equal(l, edges()) {
		t.Errorf("All of Put: %d %d", l, e)
	}
}

func TestEveryShortRowIsReadOnceOrRefused(t *testing.T) {
	digits := []byte{0, 1, 2, 44, 126, 127, 128, 129, 172, 254, 255}
	rows := [][]byte{nil}
	for len(rows) > 0 {
		b := rows[0]
		rows = rows[1:]
		l, e := All(b)
		if e == api.OK && !bytes.Equal(Put(l...), b) {
			t.Errorf("All(% x): %d, which is % x", b, l, Put(l...))
		}
		if e != api.OK && len(l) != 0 {
			t.Errorf("All(% x): %d beside %d", b, l, e)
		}
		if len(b) < 4 {
			for _, c := range digits {
				rows = append(rows, append(bytes.Clone(b), c))
			}
		}
	}
}

func TestZigZag(t *testing.T) {
	for n, u := range map[int]uint64{
		0:                 0,
		-1:                1,
		1:                 2,
		-2:                3,
		2:                 4,
		-3:                5,
		math.MaxInt32:     1<<32 - 2,
		math.MinInt32:     1<<32 - 1,
		math.MaxInt64 - 1: math.MaxUint64 - 3,
		math.MinInt64 + 1: math.MaxUint64 - 2,
		math.MaxInt64:     math.MaxUint64 - 1,
		math.MinInt64:     math.MaxUint64,
	} {
		if got := Zig(n); got != u {
			t.Errorf("Zig(%d): %d, not %d", n, got, u)
		}
		if got := Zag(u); got != n {
			t.Errorf("Zag(%d): %d, not %d", u, got, n)
		}
	}
	for _, u := range edges() {
		if got := Zig(Zag(u)); got != u {
			t.Errorf("Zig(Zag(%d)): %d", u, got)
		}
	}
	for u := range uint64(1000) {
		n := int(u / 2)
		if u%2 == 1 {
			n = -n - 1
		}
		if Zag(u) != n || Zig(n) != u {
			t.Errorf("%d: Zag %d, Zig back %d", u, Zag(u), Zig(n))
		}
	}
}

func TestSignedNumbers(t *testing.T) {
	for n, want := range map[int][]byte{
		0:             {0},
		-1:            {1},
		-3:            {5},
		63:            {126},
		-64:           {127},
		64:            {128, 1},
		-65:           {129, 1},
		150:           {0xac, 2},
		math.MaxInt64: row(1, 254, row(8, 255, 1)...),
		math.MinInt64: row(9, 255, 1),
	} {
		b := PutInt(n)
		if !bytes.Equal(b, want) {
			t.Errorf("PutInt(%d): % x, not % x", n, b, want)
		}
		if m, to, e := GetInt(append([]byte{200}, want...), 1); m != n || to != 1+len(want) || e != api.OK {
			t.Errorf("GetInt of %d: %d %d %d", n, m, to, e)
		}
	}
}

func TestGetIntRefuses(t *testing.T) {
	for _, x := range []struct {
		b  []byte
		at int
		e  api.Errno
	}{
		{nil, 0, api.ErrShort},
		{[]byte{5}, 1, api.ErrShort},
		{[]byte{5}, 2, api.ErrArg},
		{[]byte{5}, -1, api.ErrArg},
		{[]byte{5}, math.MaxInt, api.ErrArg},
		{[]byte{5}, math.MinInt, api.ErrArg},
		{[]byte{133}, 0, api.ErrShort},
		{[]byte{133, 0}, 0, api.ErrForm},
		{row(9, 255, 2), 0, api.ErrForm},
		{row(9, 255), 0, api.ErrShort},
	} {
		if n, to, e := GetInt(x.b, x.at); n != 0 || to != 0 || e != x.e {
			t.Errorf("GetInt(% x, %d): %d %d %d, not %d", x.b, x.at, n, to, e, x.e)
		}
	}
}

func TestFixed(t *testing.T) {
	for _, x := range []struct {
		n     uint64
		width int
		want  []byte
	}{
		{0, 1, []byte{0}},
		{0, 8, row(8, 0)},
		{255, 1, []byte{255}},
		{256, 2, []byte{0, 1}},
		{258, 2, []byte{2, 1}},
		{258, 3, []byte{2, 1, 0}},
		{0x0807060504030201, 8, []byte{1, 2, 3, 4, 5, 6, 7, 8}},
		{math.MaxUint64, 8, row(8, 255)},
	} {
		if b, e := Fixed(x.n, x.width); !bytes.Equal(b, x.want) || e != api.OK {
			t.Errorf("Fixed(%d, %d): % x %d", x.n, x.width, b, e)
		}
	}
	for width := 1; width < 8; width++ {
		over := uint64(1) << (8 * width)
		if b, e := Fixed(over-1, width); !bytes.Equal(b, row(width, 255)) || e != api.OK {
			t.Errorf("Fixed(%d, %d): % x %d", over-1, width, b, e)
		}
		for _, n := range []uint64{over, over + 1, math.MaxUint64} {
			if b, e := Fixed(n, width); len(b) != 0 || e != api.ErrArg {
				t.Errorf("Fixed(%d, %d): % x %d", n, width, b, e)
			}
		}
	}
	for _, width := range []int{math.MinInt, -8, -1, 0, 9, 64, math.MaxInt} {
		for _, n := range []uint64{0, 1, math.MaxUint64} {
			if b, e := Fixed(n, width); len(b) != 0 || e != api.ErrArg {
				t.Errorf("Fixed(%d, %d): % x %d", n, width, b, e)
			}
		}
	}
}

func TestField(t *testing.T) {
	b := []byte{9, 2, 1, 0, 4, 5, 6, 7, 8}
	for _, x := range []struct {
		at, width int
		n         uint64
		e         api.Errno
	}{
		{0, 1, 9, api.OK},
		{1, 2, 258, api.OK},
		{1, 3, 258, api.OK},
		{0, 8, 0x0706050400010209, api.OK},
		{1, 8, 0x0807060504000102, api.OK},
		{8, 1, 8, api.OK},
		{2, 8, 0, api.ErrShort},
		{8, 2, 0, api.ErrShort},
		{9, 1, 0, api.ErrShort},
		{10, 1, 0, api.ErrShort},
		{math.MaxInt, 1, 0, api.ErrShort},
		{math.MaxInt, 8, 0, api.ErrShort},
		{-1, 1, 0, api.ErrArg},
		{-1, 8, 0, api.ErrArg},
		{math.MinInt, 8, 0, api.ErrArg},
		{0, 0, 0, api.ErrArg},
		{0, 9, 0, api.ErrArg},
		{0, -1, 0, api.ErrArg},
		{0, math.MaxInt, 0, api.ErrArg},
		{0, math.MinInt, 0, api.ErrArg},
		{9, 0, 0, api.ErrArg},
		{9, 9, 0, api.ErrArg},
		{math.MaxInt, math.MaxInt, 0, api.ErrArg},
		{math.MinInt, math.MinInt, 0, api.ErrArg},
	} {
		if n, e := Field(b, x.at, x.width); n != x.n || e != x.e {
			t.Errorf("Field(% x, %d, %d): %d %d", b, x.at, x.width, n, e)
		}
	}
	if n, e := Field(nil, 0, 1); n != 0 || e != api.ErrShort {
		t.Errorf("Field of nothing: %d %d", n, e)
	}
	// Room behind a list is none of its bytes.
	if n, e := Field(b[:1], 0, 2); n != 0 || e != api.ErrShort {
		t.Errorf("Field with room behind: %d %d", n, e)
	}
}

func TestFieldReadsWhatFixedWrote(t *testing.T) {
	for _, n := range edges() {
		for width := 1; width <= 8; width++ {
			b, e := Fixed(n, width)
			if e != api.OK {
				continue
			}
			if m, e := Field(append([]byte{3}, b...), 1, width); m != n || e != api.OK {
				t.Errorf("Field of Fixed(%d, %d): %d %d", n, width, m, e)
			}
		}
	}
}

func TestArgumentsStayAsTheyAre(t *testing.T) {
	numbers := edges()
	Put(numbers...)
	if !slices.Equal(numbers, edges()) {
		t.Error("Put changed its numbers")
	}
	b := row(9, 255, 1, 0xac, 2, 128, 0)
	was := bytes.Clone(b)
	All(b)
	Get(b, 0)
	GetInt(b, 10)
	Field(b, 0, 8)
	if !bytes.Equal(b, was) {
		t.Error("reading changed the bytes")
	}
}

func TestAnswersAreNewMemory(t *testing.T) {
	writers := map[string]func() []byte{
		"Put":    func() []byte { return Put(1, 300) },
		"PutInt": func() []byte { return PutInt(-300) },
		"Fixed":  func() []byte { b, _ := Fixed(258, 3); return b },
	}
	for name, write := range writers {
		a, b := write(), write()
		want := bytes.Clone(b)
		spoil(a)
		if !bytes.Equal(b, want) || !bytes.Equal(write(), want) {
			t.Errorf("%s: two answers share memory", name)
		}
	}
	a, _ := All([]byte{1, 2, 3})
	b, _ := All([]byte{1, 2, 3})
	spoil(a)
	if !slices.Equal(b, []uint64{1, 2, 3}) {
		t.Error("All: two answers share memory")
	}
}

// spoil overwrites a list and the room behind it.
func spoil[T byte | uint64](l []T) {
	l = l[:cap(l)]
	for i := range l {
		l[i] = 99
	}
}
