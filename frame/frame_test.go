package frame

import (
	"bytes"
	"encoding/binary"
	"hash/crc32"
	"math"
	"math/rand"
	"slices"
	"testing"

	"lapidary/api"
)

// text is a section of these bytes.
func text(kind int, s string) api.Section {
	return api.Section{Kind: kind, B: []byte(s)}
}

// noise is a section of n bytes that follow no rule.
func noise(kind, n int) api.Section {
	b := make([]byte, n)
	rand.New(rand.NewSource(int64(kind*n + n))).Read(b)
	return api.Section{Kind: kind, B: b}
}

// laid is a section as the chapter words it, by the library's means, whatever its kind and its length are.
func laid(s api.Section) []byte {
	b := binary.AppendUvarint([]byte{byte(s.Kind)}, uint64(len(s.B)))
	b = append(b, s.B...)
	return binary.LittleEndian.AppendUint32(b, crc32.ChecksumIEEE(b))
}

// archive is the head, sections as they are, and the end.
func archive(l ...api.Section) []byte {
	b := []byte{0x4c, 0x50, 0x44, 0x59, 1}
	for _, s := range l {
		b = append(b, laid(s)...)
	}
	return append(b, 0)
}

// behind is these bytes behind a head.
func behind(l ...[]byte) []byte {
	return slices.Concat([]byte("LPDY\x01"), slices.Concat(l...))
}

func same(a, b []api.Section) bool {
	return slices.EqualFunc(a, b, func(x, y api.Section) bool { return x.Kind == y.Kind && bytes.Equal(x.B, y.B) })
}

// brief is as much of b as a message can bear.
func brief(b []byte) []byte {
	return b[:min(len(b), 40)]
}

// read fails unless b is read as these sections.
func read(t *testing.T, b []byte, want ...api.Section) {
	t.Helper()
	if l, e := Decode(b); !same(l, want) || e != api.OK {
		t.Errorf("Decode of %d bytes % x: %d sections, %d", len(b), brief(b), len(l), e)
	}
}

// refused fails unless b is answered with this error, and with nothing beside it.
func refused(t *testing.T, b []byte, want api.Errno) {
	t.Helper()
	if l, e := Decode(b); len(l) != 0 || e != want {
		t.Errorf("Decode of %d bytes % x: %d sections, %d, not %d", len(b), brief(b), len(l), e, want)
	}
}

// several are rows of sections that may be written.
func several() [][]api.Section {
	l := [][]api.Section{
		nil,
		{},
		{{Kind: 1}},
		{{Kind: 9, B: []byte{}}},
		{text(2, "abc"), {Kind: 5}},
		{text(1, "\x00"), text(2, "\x00\x00"), text(9, "LPDY\x01\x00")},
		{noise(3, 127), noise(4, 128), noise(8, 129)},
		{noise(1, 16383), noise(2, 16384)},
	}
	all := make([]api.Section, 9)
	for i := range all {
		all[i] = noise(i+1, i*i)
	}
	l = append(l, all)
	for set := range 1 << 9 {
		var some []api.Section
		for i := range all {
			if set>>i&1 == 1 {
				some = append(some, noise(i+1, set%7))
			}
		}
		l = append(l, some)
	}
	return l
}

func TestHead(t *testing.T) {
	want := []byte{0x4c, 0x50, 0x44, 0x59, 0x01}
	one, two := Head(), Head()
	if !bytes.Equal(one, want) {
		t.Errorf("Head: % x", one)
	}
	spoil(one)
	if !bytes.Equal(two, want) || !bytes.Equal(Head(), want) {
		t.Error("Head: two answers share memory")
	}
}

func TestOne(t *testing.T) {
	for kind := 1; kind <= 9; kind++ {
		for _, n := range []int{0, 1, 3, 127, 128, 300, 16383, 16384} {
			s := noise(kind, n)
			if b, e := One(s); !bytes.Equal(b, laid(s)) || e != api.OK {
				t.Errorf("One of kind %d, %d bytes: % x %d", kind, n, brief(b), e)
			}
		}
	}
	want := []byte{2, 3, 'a', 'b', 'c', 0, 0, 0, 0}
	binary.LittleEndian.PutUint32(want[5:], crc32.ChecksumIEEE([]byte("\x02\x03abc")))
	if b, e := One(text(2, "abc")); !bytes.Equal(b, want) || e != api.OK {
		t.Errorf("One of abc: % x %d, not % x", b, e, want)
	}
}

func TestOneWithoutBytes(t *testing.T) {
	a, e := One(api.Section{Kind: 5})
	b, f := One(api.Section{Kind: 5, B: []byte{}})
	if e != api.OK || f != api.OK || !bytes.Equal(a, b) || len(a) != 6 || a[0] != 5 || a[1] != 0 {
		t.Errorf("One of nothing: % x %d, % x %d", a, e, b, f)
	}
}

func TestOneRefuses(t *testing.T) {
	most := make([]byte, api.MaxBytes)
	over := make([]byte, api.MaxBytes+1)
	for _, x := range []struct {
		s api.Section
		e api.Errno
	}{
		{api.Section{}, api.ErrArg},
		{text(0, "abc"), api.ErrArg},
		{text(-1, "abc"), api.ErrArg},
		{text(-255, "abc"), api.ErrArg},
		{text(10, "abc"), api.ErrArg},
		{text(256, "abc"), api.ErrArg},
		{text(257, "abc"), api.ErrArg},
		{text(math.MinInt, "abc"), api.ErrArg},
		{text(math.MinInt+1, "abc"), api.ErrArg},
		{text(math.MaxInt, "abc"), api.ErrArg},
		{api.Section{Kind: 0, B: over}, api.ErrArg},
		{api.Section{Kind: 10, B: over}, api.ErrArg},
		{api.Section{Kind: -1, B: over}, api.ErrArg},
		{api.Section{Kind: 1, B: over}, api.ErrLong},
		{api.Section{Kind: 9, B: over}, api.ErrLong},
	} {
		if b, e := One(x.s); len(b) != 0 || e != x.e {
			t.Errorf("One of kind %d, %d bytes: % x %d, not %d", x.s.Kind, len(x.s.B), brief(b), e, x.e)
		}
	}
	s := api.Section{Kind: 1, B: most}
	if b, e := One(s); !bytes.Equal(b, laid(s)) || e != api.OK {
		t.Errorf("One of as many bytes as may be: %d bytes, %d", len(b), e)
	}
}

func TestEncode(t *testing.T) {
	for _, l := range several() {
		b, e := Encode(l...)
		if !bytes.Equal(b, archive(l...)) || e != api.OK {
			t.Errorf("Encode of %d sections: % x %d", len(l), brief(b), e)
		}
		want := Head()
		for _, s := range l {
			one, _ := One(s)
			want = append(want, one...)
		}
		if !bytes.Equal(b, append(want, 0)) {
			t.Errorf("Encode of %d sections is not One of each", len(l))
		}
	}
}

func TestEncodeOfNothing(t *testing.T) {
	want := []byte{0x4c, 0x50, 0x44, 0x59, 0x01, 0x00}
	for _, l := range [][]api.Section{nil, {}} {
		if b, e := Encode(l...); !bytes.Equal(b, want) || e != api.OK {
			t.Errorf("Encode of nothing: % x %d", b, e)
		}
	}
	if b, e := Encode(); !bytes.Equal(b, want) || e != api.OK {
		t.Errorf("Encode(): % x %d", b, e)
	}
	read(t, want)
}

func TestEncodeRefuses(t *testing.T) {
	over := make([]byte, api.MaxBytes+1)
	most := make([]byte, api.MaxBytes)
	for i, x := range []struct {
		l []api.Section
		e api.Errno
	}{
		{[]api.Section{{}}, api.ErrArg},
		{[]api.Section{{Kind: 10}}, api.ErrArg},
		{[]api.Section{{Kind: -1}}, api.ErrArg},
		{[]api.Section{{Kind: math.MaxInt}}, api.ErrArg},
		{[]api.Section{{Kind: math.MinInt}}, api.ErrArg},
		{[]api.Section{{Kind: 1}, {Kind: 10}}, api.ErrArg},
		{[]api.Section{{Kind: 0}, {Kind: 1}}, api.ErrArg},
		{[]api.Section{{Kind: 1}, {Kind: 0}}, api.ErrArg},
		{[]api.Section{{Kind: 1, B: over}}, api.ErrLong},
		{[]api.Section{{Kind: 1}, {Kind: 2, B: over}}, api.ErrLong},
		// Kinds that do not rise.
		{[]api.Section{{Kind: 3}, {Kind: 3}}, api.ErrArg},
		{[]api.Section{{Kind: 3}, {Kind: 2}}, api.ErrArg},
		{[]api.Section{{Kind: 9}, {Kind: 1}}, api.ErrArg},
		{[]api.Section{{Kind: 1}, {Kind: 2}, {Kind: 2}}, api.ErrArg},
		{[]api.Section{{Kind: 1}, {Kind: 1}, {Kind: 2}}, api.ErrArg},
		{[]api.Section{{Kind: 1}, {Kind: 3}, {Kind: 2}, {Kind: 4}}, api.ErrArg},
		{[]api.Section{{Kind: 2}, {Kind: 1}, {Kind: 3}}, api.ErrArg},
		// The first section that has a fault, ahead of the next.
		{[]api.Section{{Kind: 1, B: over}, {Kind: 0}}, api.ErrLong},
		{[]api.Section{{Kind: 0}, {Kind: 1, B: over}}, api.ErrArg},
		{[]api.Section{{Kind: 0, B: over}, {Kind: 1}}, api.ErrArg},
		// A section's fault, ahead of kinds that do not rise.
		{[]api.Section{{Kind: 2}, {Kind: 1, B: over}}, api.ErrLong},
		{[]api.Section{{Kind: 2}, {Kind: 2}, {Kind: 3, B: over}}, api.ErrLong},
		{[]api.Section{{Kind: 2, B: over}, {Kind: 2}}, api.ErrLong},
		{[]api.Section{{Kind: 2}, {Kind: 2}, {Kind: 3, B: over}, {Kind: 0}}, api.ErrLong},
		// Kinds that do not rise, ahead of all that is too much.
		{[]api.Section{{Kind: 2, B: most}, {Kind: 2, B: most}}, api.ErrArg},
		{[]api.Section{{Kind: 2, B: most}, {Kind: 1}}, api.ErrArg},
		{[]api.Section{{Kind: 2, B: most}, {Kind: 0}}, api.ErrArg},
		{[]api.Section{{Kind: 1, B: most}, {Kind: 2, B: most}}, api.ErrLong},
		{[]api.Section{{Kind: 1, B: most}}, api.ErrLong},
	} {
		if b, e := Encode(x.l...); len(b) != 0 || e != x.e {
			t.Errorf("%d: Encode: % x %d, not %d", i, brief(b), e, x.e)
		}
	}
}

func TestEncodeOfVeryManySections(t *testing.T) {
	l := make([]api.Section, 1<<20)
	most := make([]byte, api.MaxBytes)
	for i := range l {
		l[i] = api.Section{Kind: 1, B: most}
	}
	if b, e := Encode(l...); len(b) != 0 || e != api.ErrArg {
		t.Errorf("Encode: %d bytes, %d", len(b), e)
	}
	l[len(l)-1].B = make([]byte, api.MaxBytes+1)
	if b, e := Encode(l...); len(b) != 0 || e != api.ErrLong {
		t.Errorf("Encode, the last one too long: %d bytes, %d", len(b), e)
	}
}

// full are rows of sections that are written in just as many bytes as may be, and one of whose sections may have one more.
func full() [][]api.Section {
	const around = 5 + 1        // the head, and the end
	const beside = 1 + 3 + 4    // the kind, a length of three bytes, the checksum
	const small = 1 + 1 + 4 + 9 // a section of nine bytes
	return [][]api.Section{
		{noise(1, api.MaxBytes-around-beside)},
		{noise(9, api.MaxBytes-around-beside)},
		{noise(2, 9), noise(7, api.MaxBytes-around-beside-small)},
		{noise(4, api.MaxBytes/2-around-beside), noise(5, api.MaxBytes/2-beside)},
	}
}

func TestAsManyBytesAsMayBe(t *testing.T) {
	for _, l := range full() {
		b, e := Encode(l...)
		if e != api.OK || len(b) != api.MaxBytes {
			t.Fatalf("Encode: %d bytes, %d", len(b), e)
		}
		read(t, b, l...)
		refused(t, append(b, 0), api.ErrForm)

		l[len(l)-1].B = append(l[len(l)-1].B, 7)
		if b, e := Encode(l...); len(b) != 0 || e != api.ErrLong {
			t.Errorf("Encode of one byte more: %d bytes, %d", len(b), e)
		}
		b = archive(l...)
		if len(b) != api.MaxBytes+1 {
			t.Fatalf("%d bytes", len(b))
		}
		refused(t, b, api.ErrLong)
		refused(t, b[:len(b)-1], api.ErrShort)
		refused(t, append(bytes.Clone(b), 0), api.ErrForm)
		b[len(b)-2] ^= 1
		refused(t, b, api.ErrSum)
		b[len(b)-2] ^= 1
		b[len(b)-1] = 10
		refused(t, b, api.ErrForm)
	}
}

func TestDecodeOfMoreBytesThanMayBe(t *testing.T) {
	var l []api.Section
	for kind := 1; kind <= 9; kind++ {
		l = append(l, noise(kind, api.MaxBytes))
	}
	b := archive(l...)
	refused(t, b, api.ErrLong)
	refused(t, append(bytes.Clone(b), 0), api.ErrForm)
	refused(t, b[:len(b)-1], api.ErrShort)
	b[len(b)-1] = 9
	refused(t, b, api.ErrForm)
	refused(t, append(archive(), make([]byte, 2*api.MaxBytes)...), api.ErrForm)
	refused(t, make([]byte, 2*api.MaxBytes), api.ErrForm)
	refused(t, behind([]byte{10}, make([]byte, 2*api.MaxBytes)), api.ErrForm)
}

func TestDecodeReadsWhatEncodeWrote(t *testing.T) {
	for _, l := range several() {
		b, _ := Encode(l...)
		read(t, b, l...)
		got, _ := Decode(b)
		back, e := Encode(got...)
		if !bytes.Equal(back, b) || e != api.OK {
			t.Errorf("Encode of what was read: % x %d, not % x", brief(back), e, brief(b))
		}
	}
}

func TestDecodeOfBeginnings(t *testing.T) {
	for _, l := range several() {
		b := archive(l...)
		if len(b) > 1000 {
			continue
		}
		for to := range b {
			refused(t, b[:to], api.ErrShort)
		}
	}
	for _, none := range [][]byte{nil, {}} {
		refused(t, none, api.ErrShort)
	}
	// What is wrong ahead of the end of what is there is told all the same.
	b := behind(laid(text(3, "abc")), laid(text(3, "d")), []byte{0})
	again := len(b) - 8
	for to := range len(b) + 1 {
		want := api.ErrShort
		if to > again {
			want = api.ErrForm
		}
		refused(t, b[:to], want)
	}
}

func TestDecodeBehindTheEnd(t *testing.T) {
	for _, l := range several() {
		b := archive(l...)
		for _, more := range [][]byte{{0}, {1}, {255}, {0, 0}, Head(), archive(), laid(text(9, "abc"))} {
			refused(t, slices.Concat(b, more), api.ErrForm)
		}
	}
}

func TestDecodeWrongHead(t *testing.T) {
	b := archive(text(1, "abc"))
	for at := range 5 {
		for c := range 256 {
			changed := bytes.Clone(b)
			changed[at] = byte(c)
			if changed[at] == b[at] {
				continue
			}
			refused(t, changed, api.ErrForm)
			refused(t, changed[:at], api.ErrShort)
			for to := at + 1; to <= 6; to++ {
				refused(t, changed[:to], api.ErrForm)
			}
		}
	}
	refused(t, []byte("lpdy\x01\x00"), api.ErrForm)
	refused(t, []byte("LPDY\x02\x00"), api.ErrForm)
	refused(t, []byte("LPDY\x00"), api.ErrForm)
	refused(t, []byte{0}, api.ErrForm)
}

func TestDecodeWrongKind(t *testing.T) {
	for kind := 10; kind < 256; kind++ {
		refused(t, behind([]byte{byte(kind)}), api.ErrForm)
		refused(t, archive(text(kind, "abc")), api.ErrForm)
		refused(t, archive(text(4, "abc"), text(kind, "abc")), api.ErrForm)
		refused(t, behind(laid(text(9, "")), []byte{byte(kind)}), api.ErrForm)
	}
	for first := 1; first <= 9; first++ {
		for second := 1; second <= 9; second++ {
			l := []api.Section{text(first, "abc"), text(second, "de")}
			kindAlone := behind(laid(l[0]), []byte{byte(second)})
			if second > first {
				read(t, archive(l...), l...)
				refused(t, kindAlone, api.ErrShort)
				continue
			}
			refused(t, archive(l...), api.ErrForm)
			refused(t, kindAlone, api.ErrForm)
		}
	}
	refused(t, archive(text(1, ""), text(3, ""), text(2, "")), api.ErrForm)
	refused(t, archive(text(1, ""), text(3, ""), text(3, "")), api.ErrForm)
}

func TestDecodeWrongLength(t *testing.T) {
	for _, x := range []struct {
		size []byte
		e    api.Errno
	}{
		{nil, api.ErrShort},
		{[]byte{128}, api.ErrShort},
		{[]byte{255, 255, 255}, api.ErrShort},
		{bytes.Repeat([]byte{255}, 9), api.ErrShort},
		{[]byte{128, 0}, api.ErrForm},
		{[]byte{131, 0}, api.ErrForm},
		{[]byte{0xac, 0x82, 0}, api.ErrForm},
		{[]byte{255, 255, 255, 0}, api.ErrForm},
		{append(bytes.Repeat([]byte{255}, 9), 0), api.ErrForm},
		{append(bytes.Repeat([]byte{255}, 9), 2), api.ErrForm},
		{bytes.Repeat([]byte{128}, 10), api.ErrForm},
		{bytes.Repeat([]byte{255}, 1000), api.ErrForm},
		{binary.AppendUvarint(nil, api.MaxBytes), api.ErrShort},
		{binary.AppendUvarint(nil, api.MaxBytes+1), api.ErrLong},
		{[]byte{255, 255, 255, 127}, api.ErrLong},
		{binary.AppendUvarint(nil, 1<<31), api.ErrLong},
		{binary.AppendUvarint(nil, 1<<32), api.ErrLong},
		{binary.AppendUvarint(nil, math.MaxInt64), api.ErrLong},
		{binary.AppendUvarint(nil, 1<<63), api.ErrLong},
		{binary.AppendUvarint(nil, math.MaxUint64), api.ErrLong},
	} {
		refused(t, behind([]byte{1}, x.size), x.e)
		refused(t, behind(laid(text(1, "abc")), []byte{2}, x.size), x.e)
		if x.e != api.ErrShort {
			refused(t, behind([]byte{1}, x.size, []byte("abc")), x.e)
			refused(t, behind([]byte{1}, x.size, make([]byte, api.MaxBytes+100)), x.e)
		}
	}
}

// A length may have one form alone, though the checksum is that of the longer one.
func TestDecodeLongerLength(t *testing.T) {
	for _, size := range [][]byte{{3 | 128, 0}, {3 | 128, 128, 0}} {
		b := slices.Concat([]byte{2}, size, []byte("abc"))
		b = binary.LittleEndian.AppendUint32(b, crc32.ChecksumIEEE(b))
		refused(t, behind(b, []byte{0}), api.ErrForm)
	}
	over := noise(1, api.MaxBytes+1)
	refused(t, archive(over), api.ErrLong)
	refused(t, archive(over)[:20], api.ErrLong)
}

// flipped is b, with the bits of mask changed from bit at on, up to bit to. A byte's bits come lowest first.
func flipped(b []byte, at, to int, mask uint32) []byte {
	c := bytes.Clone(b)
	for i := range 32 {
		if mask>>i&1 == 1 && at+i < to {
			c[(at+i)/8] ^= 1 << ((at + i) % 8)
		}
	}
	return c
}

func TestDecodeTellsChanges(t *testing.T) {
	r := rand.New(rand.NewSource(3))
	for _, first := range []api.Section{{Kind: 1}, text(1, "abc"), noise(1, 40), noise(1, 130)} {
		b := archive(first, text(5, "behind"))
		to := 5 + len(laid(first))
		from := to - 4 - len(first.B)
		for at := 8 * from; at < 8*to; at++ {
			masks := []uint32{1, 3, 1<<31 | 1, 1<<32 - 1}
			for range 20 {
				masks = append(masks, r.Uint32()|1)
			}
			for _, mask := range masks {
				refused(t, flipped(b, at, 8*to, mask), api.ErrSum)
			}
		}
	}
}

func TestChecksumIsOfKindAndLengthToo(t *testing.T) {
	b := archive(text(2, "abc"), text(8, "de"))
	for kind := 1; kind <= 9; kind++ {
		changed := bytes.Clone(b)
		changed[5] = byte(kind)
		if kind != 2 {
			refused(t, changed, api.ErrSum)
		}
	}
	for size := range 10 {
		changed := bytes.Clone(b)
		changed[6] = byte(size)
		if size != 3 {
			refused(t, changed, api.ErrSum)
		}
	}
	bare := binary.LittleEndian.AppendUint32([]byte("\x02\x03abc"), crc32.ChecksumIEEE([]byte("abc")))
	refused(t, behind(bare, []byte{0}), api.ErrSum)
	backwards := laid(text(2, "abc"))
	slices.Reverse(backwards[5:])
	refused(t, behind(backwards, []byte{0}), api.ErrSum)
}

func TestChecksumIsToldBehindItsFourthByte(t *testing.T) {
	b := archive(text(2, "abc"))
	b[10] ^= 255
	for to := range b {
		want := api.ErrShort
		if to >= 5+9 {
			want = api.ErrSum
		}
		refused(t, b[:to], want)
	}
	// Ahead of whatever is wrong behind it.
	for _, more := range [][]byte{{10}, {2}, {3, 128, 0}, {3, 255, 255, 255, 127}, {0, 0}} {
		refused(t, slices.Concat(b[:14], more), api.ErrSum)
	}
}

// byWords goes through b byte by byte, in the chapter's order, and looks at no byte behind the one that it is at.
func byWords(b []byte) ([]api.Section, api.Errno) {
	at := 0
	next := func() (byte, bool) {
		at++
		if at > len(b) {
			return 0, false
		}
		return b[at-1], true
	}
	for _, h := range []byte{0x4c, 0x50, 0x44, 0x59, 1} {
		if c, ok := next(); !ok {
			return nil, api.ErrShort
		} else if c != h {
			return nil, api.ErrForm
		}
	}
	var l []api.Section
	ahead := byte(0)
	for {
		from := at
		kind, ok := next()
		if !ok {
			return nil, api.ErrShort
		}
		if kind == 0 {
			break
		}
		if kind > 9 || kind <= ahead {
			return nil, api.ErrForm
		}
		ahead = kind
		size, count := uint64(0), 0
		for {
			c, ok := next()
			if !ok {
				return nil, api.ErrShort
			}
			if count > 0 && c == 0 || count == 9 && c > 1 {
				return nil, api.ErrForm
			}
			size |= uint64(c&127) << (7 * count)
			count++
			if c < 128 {
				break
			}
		}
		if size > api.MaxBytes {
			return nil, api.ErrLong
		}
		var own []byte
		for range size {
			c, ok := next()
			if !ok {
				return nil, api.ErrShort
			}
			own = append(own, c)
		}
		sum := crc32.ChecksumIEEE(b[from:at])
		told := uint32(0)
		for i := range 4 {
			c, ok := next()
			if !ok {
				return nil, api.ErrShort
			}
			told |= uint32(c) << (8 * i)
		}
		if told != sum {
			return nil, api.ErrSum
		}
		l = append(l, api.Section{Kind: int(kind), B: own})
	}
	if at < len(b) {
		return nil, api.ErrForm
	}
	if len(b) > api.MaxBytes {
		return nil, api.ErrLong
	}
	return l, api.OK
}

// asWorded fails unless b is answered as the chapter words it, and, if it is read, written as the same bytes.
func asWorded(t *testing.T, b []byte) {
	t.Helper()
	l, e := Decode(b)
	want, we := byWords(b)
	if e != we || !same(l, want) {
		t.Errorf("Decode(% x): %v %d, not %v %d", b, l, e, want, we)
	}
	if e == api.OK {
		if back, e := Encode(l...); !bytes.Equal(back, b) || e != api.OK {
			t.Errorf("Decode(% x), and back: % x %d", b, back, e)
		}
	}
}

func TestDecodeIsAsWorded(t *testing.T) {
	for _, b := range [][]byte{
		archive(),
		archive(text(2, "abc"), api.Section{Kind: 5}),
		archive(api.Section{Kind: 1}, text(2, "x"), noise(9, 130)),
		behind([]byte{4}, bytes.Repeat([]byte{255}, 9), []byte{1, 0}),
	} {
		for at := range b {
			for c := range 256 {
				changed := bytes.Clone(b)
				changed[at] = byte(c)
				asWorded(t, changed)
			}
			asWorded(t, slices.Delete(bytes.Clone(b), at, at+1))
			for _, c := range []byte{0, 1, 5, 9, 10, 127, 128, 255} {
				asWorded(t, slices.Insert(bytes.Clone(b), at, c))
			}
		}
	}
	r := rand.New(rand.NewSource(8))
	for range 20000 {
		var l []api.Section
		for range r.Intn(4) {
			l = append(l, noise(r.Intn(11), r.Intn(4)))
		}
		b := archive(l...)
		if r.Intn(2) == 0 {
			b[r.Intn(len(b))] = byte(r.Intn(256))
		}
		if r.Intn(2) == 0 {
			b = b[:r.Intn(len(b)+1)]
		}
		asWorded(t, b)
	}
}

func TestDecodeOfAnyBytes(t *testing.T) {
	digits := []byte{0, 1, 2, 9, 10, 127, 128, 255}
	rows := [][]byte{nil}
	for len(rows) > 0 {
		b := rows[0]
		rows = rows[1:]
		asWorded(t, b)
		asWorded(t, behind(b))
		asWorded(t, behind(laid(text(1, "a")), b))
		if len(b) < 4 {
			for _, c := range digits {
				rows = append(rows, append(bytes.Clone(b), c))
			}
		}
	}
}

// spoil changes all bytes of b and of the room behind it.
func spoil(b []byte) {
	b = b[:cap(b)]
	for i := range b {
		b[i] ^= 255
	}
}

// withRoom is b with other bytes behind its end, in memory of its own.
func withRoom(b []byte) (whole, own []byte) {
	whole = slices.Concat(b, []byte("room behind"))
	return whole, whole[:len(b)]
}

func TestArgumentsStay(t *testing.T) {
	for _, b := range [][]byte{archive(), archive(text(2, "abc"), text(5, "")), archive(text(2, "abc"))[:12], archive(text(3, "a"), text(3, "b"))} {
		whole, own := withRoom(b)
		was := bytes.Clone(whole)
		Decode(own)
		if !bytes.Equal(whole, was) {
			t.Errorf("Decode changed % x to % x", was, whole)
		}
	}
	whole, own := withRoom([]byte("abc"))
	l := []api.Section{{Kind: 2, B: own}, {Kind: 5, B: own[:1]}, {Kind: 1, B: own}}
	was := slices.Clone(l)
	One(l[0])
	Encode(l...)
	Encode(l[:2]...)
	if string(whole) != "abcroom behind" {
		t.Errorf("writing changed the bytes to %q", whole)
	}
	if !same(l, was) {
		t.Errorf("writing changed the sections to %v", l)
	}
}

func TestRoomBehindIsNotRead(t *testing.T) {
	b := archive(text(2, "abc"), text(3, "d"))
	for to := range b {
		refused(t, b[:to:len(b)], api.ErrShort)
	}
}

func TestWhatIsWrittenIsNewMemory(t *testing.T) {
	s := text(2, "abc")
	writers := map[string]func() []byte{
		"One":               func() []byte { b, _ := One(s); return b },
		"One of nothing":    func() []byte { b, _ := One(api.Section{Kind: 1}); return b },
		"Encode":            func() []byte { b, _ := Encode(s, text(3, "d")); return b },
		"Encode of nothing": func() []byte { b, _ := Encode(); return b },
	}
	for name, write := range writers {
		one, two := write(), write()
		want := bytes.Clone(two)
		spoil(one)
		if !bytes.Equal(two, want) || !bytes.Equal(write(), want) || string(s.B) != "abc" {
			t.Errorf("%s shares memory", name)
		}
	}
	b, _ := Encode(s)
	want := bytes.Clone(b)
	spoil(s.B)
	if !bytes.Equal(b, want) {
		t.Error("Encode keeps what it was handed")
	}
}

func TestWhatIsReadIsNewMemory(t *testing.T) {
	want := []api.Section{text(1, "abc"), text(2, ""), text(4, "defg"), text(9, "h")}
	b := archive(want...)
	was := bytes.Clone(b)
	for i := range want {
		one, _ := Decode(b)
		two, _ := Decode(b)
		spoil(one[i].B)
		one[i].B = two[i].B
		if !same(one, want) || !same(two, want) || !bytes.Equal(b, was) {
			t.Errorf("section %d shares memory: %v %v", i, one, two)
		}
		one = append(one[:0], make([]api.Section, cap(one))...)
		if len(one) == 0 || !same(two, want) {
			t.Errorf("lists share memory: %v", two)
		}
	}
	l, _ := Decode(b)
	spoil(b)
	if !same(l, want) {
		t.Errorf("Decode keeps what it was handed: %v", l)
	}
}
