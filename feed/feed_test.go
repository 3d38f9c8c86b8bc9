package feed

import (
	"bytes"
	"encoding/binary"
	"hash/crc32"
	"math"
	"math/rand"
	"slices"
	"testing"

	"lapidary/api"
	"lapidary/frame"
)

// text is a section of these bytes.
func text(kind int, s string) api.Section {
	return api.Section{Kind: kind, B: []byte(s)}
}

// noise is a section of n bytes that follow no rule.
func noise(kind, n int) api.Section {
	b := make([]byte, n)
	rand.New(rand.NewSource(int64(kind*n + n))).Read(b)
	return api.Section{Kind: kind, B: b}
}

// laid is a section by the library's means, whatever its kind and its length are.
func laid(s api.Section) []byte {
	b := binary.AppendUvarint([]byte{byte(s.Kind)}, uint64(len(s.B)))
	b = append(b, s.B...)
	return binary.LittleEndian.AppendUint32(b, crc32.ChecksumIEEE(b))
}

// behind is these bytes behind a head.
func behind(l ...[]byte) []byte {
	return slices.Concat([]byte("LPDY\x01"), slices.Concat(l...))
}

// archive is the head, sections as they are, and the end.
func archive(l ...api.Section) []byte {
	b := behind()
	for _, s := range l {
		b = append(b, laid(s)...)
	}
	return append(b, 0)
}

// written is what frame.Encode writes.
func written(t *testing.T, l ...api.Section) []byte {
	t.Helper()
	b, e := frame.Encode(l...)
	if e != api.OK {
		t.Fatalf("Encode: %d", e)
	}
	return b
}

func same(a, b []api.Section) bool {
	return slices.EqualFunc(a, b, func(x, y api.Section) bool { return x.Kind == y.Kind && bytes.Equal(x.B, y.B) })
}

// brief is as much of b as a message can bear.
func brief(b []byte) []byte {
	return b[:min(len(b), 60)]
}

// single is b in chunks of one byte.
func single(b []byte) [][]byte {
	return slices.Collect(slices.Chunk(b, 1))
}

// cut is b in pieces that end at these places.
func cut(b []byte, at ...int) [][]byte {
	var l [][]byte
	from := 0
	for _, to := range append(at, len(b)) {
		l = append(l, b[from:to])
		from = to
	}
	return l
}

// ways are chunks of b: whole, byte by byte, with nothing between them, and cut at every place.
func ways(b []byte) [][][]byte {
	l := [][][]byte{{b}, single(b), {nil, b, {}}}
	var sparse [][]byte
	for _, c := range single(b) {
		sparse = append(sparse, nil, c, []byte{})
	}
	l = append(l, sparse)
	for at := range len(b) + 1 {
		l = append(l, cut(b, at))
	}
	return l
}

// twice are chunks of b, cut at every two places.
func twice(b []byte) [][][]byte {
	var l [][][]byte
	for one := range len(b) + 1 {
		for two := one; two <= len(b); two++ {
			l = append(l, cut(b, one, two))
		}
	}
	return l
}

// told is the first thing that is wrong in b, by what frame.Decode tells of its beginnings, and how many bytes there are with it.
func told(b []byte) (api.Errno, int) {
	for to := range len(b) + 1 {
		_, e := frame.Decode(b[:to])
		// The ErrLong at the end is none that a byte behind it leaves.
		if e == api.OK || e == api.ErrShort || e == api.ErrLong && to > api.MaxBytes {
			continue
		}
		return e, to
	}
	return api.OK, len(b)
}

// ended fails unless a closed feeder tells that it is, and nothing else.
func ended(t *testing.T, f *Feeder) {
	t.Helper()
	taken, held := f.Taken(), f.Held()
	for range 2 {
		for _, l := range [][][]byte{nil, {nil}, {[]byte("LPDY\x01\x00")}, {{1}, {}, {2}}} {
			if e := f.Feed(l...); e != api.ErrClosed {
				t.Errorf("Feed of %v to a closed one: %d", l, e)
			}
		}
		if l, e := f.Close(); l != nil || e != api.ErrClosed {
			t.Errorf("Close of a closed one: %v %d", l, e)
		}
	}
	if f.Taken() != taken || f.Held() != held {
		t.Errorf("a closed one took: %d %d, not %d %d", f.Taken(), f.Held(), taken, held)
	}
}

// finished fails unless Close tells what frame.Decode tells of all of b.
func finished(t *testing.T, f *Feeder, b []byte) {
	t.Helper()
	want, we := frame.Decode(b)
	if l, e := f.Close(); e != we || !same(l, want) || e != api.OK && l != nil {
		t.Errorf("Close behind % x: %v %d, not %v %d", brief(b), l, e, want, we)
	}
	ended(t, f)
}

// broken fails unless this is told again and again, and nothing more is taken, and Close tells it, too.
func broken(t *testing.T, f *Feeder, want api.Errno, taken int) {
	t.Helper()
	held := f.Held()
	if f.Taken() != taken {
		t.Errorf("Taken: %d, not %d", f.Taken(), taken)
	}
	for _, l := range [][][]byte{nil, {nil}, {{}, {}}, {{0}}, {{1, 2, 3}, {4}}, {archive()}} {
		if e := f.Feed(l...); e != want {
			t.Errorf("Feed of %v behind %d: %d", l, want, e)
		}
		if f.Taken() != taken || f.Held() != held {
			t.Errorf("taken behind %d: %d %d, not %d %d", want, f.Taken(), f.Held(), taken, held)
		}
	}
	if l, e := f.Close(); l != nil || e != want {
		t.Errorf("Close behind %d: %v %d", want, l, e)
	}
	ended(t, f)
}

// fed fails unless chunks that make b are answered as b's beginnings are by frame.Decode, handed in by one call each, and by one for all.
func fed(t *testing.T, b []byte, chunks [][]byte) {
	t.Helper()
	want, to := told(b)
	fedUpTo(t, b, chunks, want, to)
}

func fedUpTo(t *testing.T, b []byte, chunks [][]byte, want api.Errno, to int) {
	t.Helper()
	one, all := New(), New()
	at := 0
	for _, c := range chunks {
		at += len(c)
		now, taken := api.OK, at
		if at >= to {
			now, taken = want, to
		}
		if e := one.Feed(c); e != now || one.Taken() != taken {
			t.Errorf("Feed of % x up to %d: %d, %d taken; not %d, %d", brief(b), at, e, one.Taken(), now, taken)
		}
	}
	if e := all.Feed(chunks...); e != want || all.Taken() != to {
		t.Errorf("Feed of % x at once: %d, %d taken; not %d, %d", brief(b), e, all.Taken(), want, to)
	}
	if one.Held() != all.Held() {
		t.Errorf("Held of % x: %d and %d", brief(b), one.Held(), all.Held())
	}
	for _, f := range []*Feeder{one, all} {
		if want != api.OK {
			broken(t, f, want, to)
		} else {
			finished(t, f, b)
		}
	}
}

// several are rows of sections that may be written, of few bytes.
func several() [][]api.Section {
	return [][]api.Section{
		nil,
		{{Kind: 1}},
		{{Kind: 9, B: []byte{}}},
		{text(4, "x")},
		{text(2, "abc"), {Kind: 5}},
		{{Kind: 1}, {Kind: 2}, text(3, "LPDY\x01\x00")},
		{text(1, "\x00"), text(8, "\x00\x00"), text(9, "\xff")},
	}
}

func TestNilFeeder(t *testing.T) {
	var f *Feeder
	for range 2 {
		for _, l := range [][][]byte{nil, {nil}, {{}}, {archive()}, {{1}, {2}}} {
			if e := f.Feed(l...); e != api.ErrNil {
				t.Errorf("Feed of %v to none: %d", l, e)
			}
		}
		if l, e := f.Close(); l != nil || e != api.ErrNil {
			t.Errorf("Close of none: %v %d", l, e)
		}
		if f.Taken() != 0 || f.Held() != 0 {
			t.Errorf("none took: %d %d", f.Taken(), f.Held())
		}
	}
}

func TestFedNothing(t *testing.T) {
	for _, make := range []func() *Feeder{New, func() *Feeder { return &Feeder{} }} {
		if make() == nil {
			t.Fatal("New: nil")
		}
		for _, calls := range [][][][]byte{{}, {nil}, {{}}, {{nil}}, {{{}}}, {nil, {nil, {}}, {{}}, {nil, nil, nil}}} {
			f := make()
			for _, l := range calls {
				if e := f.Feed(l...); e != api.OK {
					t.Errorf("Feed of nothing: %d", e)
				}
			}
			if f.Taken() != 0 || f.Held() != 0 {
				t.Errorf("fed nothing: %d %d", f.Taken(), f.Held())
			}
			if l, e := f.Close(); l != nil || e != api.ErrShort {
				t.Errorf("Close of nothing: %v %d", l, e)
			}
			ended(t, f)
		}
	}
	f := &Feeder{}
	if e := f.Feed(archive(text(3, "abc"))); e != api.OK || f.Taken() != 15 || f.Held() != 3 {
		t.Errorf("the zero Feeder: %d %d %d", e, f.Taken(), f.Held())
	}
}

func TestExample(t *testing.T) {
	f := New()
	for _, c := range [][]byte{{0x4c}, nil, {0x50, 0x44, 0x59, 0x01, 0x00}} {
		if e := f.Feed(c); e != api.OK {
			t.Errorf("Feed of % x: %d", c, e)
		}
	}
	if f.Taken() != 6 || f.Held() != 0 {
		t.Errorf("%d taken, %d held", f.Taken(), f.Held())
	}
	if l, e := f.Close(); len(l) != 0 || e != api.OK {
		t.Errorf("Close: %v %d", l, e)
	}
	ended(t, f)
}

func TestSectionsComeBack(t *testing.T) {
	for _, want := range several() {
		f := New()
		if e := f.Feed(written(t, want...)); e != api.OK {
			t.Errorf("Feed: %d", e)
		}
		if l, e := f.Close(); !same(l, want) || e != api.OK {
			t.Errorf("Close: %v %d, not %v", l, e, want)
		}
		ended(t, f)
	}
}

func TestCutAtEveryPlace(t *testing.T) {
	for _, s := range several() {
		b := written(t, s...)
		for _, l := range slices.Concat(ways(b), twice(b)) {
			fedUpTo(t, b, l, api.OK, len(b))
		}
		for _, more := range []byte{0, 1, 9, 255} {
			over := append(bytes.Clone(b), more)
			for _, l := range slices.Concat(ways(over), twice(over)) {
				fedUpTo(t, over, l, api.ErrForm, len(over))
			}
		}
	}
}

func TestBeginningsCutAtEveryPlace(t *testing.T) {
	for _, s := range several() {
		b := written(t, s...)
		for to := range b {
			if _, e := frame.Decode(b[:to]); e != api.ErrShort {
				t.Fatalf("Decode of % x: %d", b[:to], e)
			}
			for _, l := range slices.Concat(ways(b[:to]), twice(b[:to])) {
				fedUpTo(t, b[:to], l, api.OK, to)
			}
		}
	}
}

func TestGreaterSectionsInChunks(t *testing.T) {
	s := []api.Section{noise(1, 127), noise(2, 128), noise(4, 300), {Kind: 5}, noise(9, 20000)}
	b := written(t, s...)
	for _, step := range []int{1, 2, 3, 5, 7, 64, 127, 128, 129, 1000, 16384, len(b)} {
		f := New()
		for c := range slices.Chunk(b, step) {
			if e := f.Feed(c); e != api.OK {
				t.Errorf("Feed by %d: %d", step, e)
			}
		}
		if f.Taken() != len(b) || f.Held() != 127+128+300+20000 {
			t.Errorf("by %d: %d taken, %d held", step, f.Taken(), f.Held())
		}
		if l, e := f.Close(); !same(l, s) || e != api.OK {
			t.Errorf("Close by %d: %d sections, %d", step, len(l), e)
		}
	}
}

// wrong is bytes in which something is wrong: what, and how many bytes there are with the one at which it is told.
type wrong struct {
	name string
	b    []byte
	e    api.Errno
	to   int
}

// changed is b with another byte at at.
func changed(b []byte, at int, c byte) []byte {
	b = bytes.Clone(b)
	b[at] = c
	return b
}

func wrongHeads() []wrong {
	var l []wrong
	for at := range 5 {
		b := archive(text(1, "abc"))
		l = append(l,
			wrong{"head", changed(b, at, b[at]+1), api.ErrForm, at + 1},
			wrong{"head", changed(b, at, 0), api.ErrForm, at + 1},
			wrong{"head", changed(b, at, 255)[:at+1], api.ErrForm, at + 1})
	}
	return append(l,
		wrong{"small letters", []byte("lpdy\x01\x00"), api.ErrForm, 1},
		wrong{"another version", []byte("LPDY\x02\x00"), api.ErrForm, 5})
}

func wrongKinds() []wrong {
	ahead := laid(text(5, "abc"))
	at := 5 + len(ahead)
	return []wrong{
		{"kind 10", behind([]byte{10}), api.ErrForm, 6},
		{"kind 255", behind([]byte{255}), api.ErrForm, 6},
		{"kind 128", archive(text(128, "abc")), api.ErrForm, 6},
		{"kind 10 behind 5", behind(ahead, laid(text(10, "d")), []byte{0}), api.ErrForm, at + 1},
		{"the same kind", behind(ahead, laid(text(5, "d")), []byte{0}), api.ErrForm, at + 1},
		{"the same kind, no more", behind(ahead, []byte{5}), api.ErrForm, at + 1},
		{"a lesser kind", behind(ahead, laid(text(4, "d")), []byte{0}), api.ErrForm, at + 1},
		{"a lesser kind behind two", behind(laid(text(1, "")), ahead, laid(text(1, ""))), api.ErrForm, at + 7},
		{"kind 10 behind 9", behind(laid(text(9, "")), []byte{10, 0}), api.ErrForm, 12},
	}
}

func wrongSizes() []wrong {
	nine := bytes.Repeat([]byte{255}, 9)
	var l []wrong
	for _, x := range []struct {
		size []byte
		e    api.Errno
	}{
		{[]byte{128, 0}, api.ErrForm},
		{[]byte{131, 0}, api.ErrForm},
		{[]byte{131, 128, 0}, api.ErrForm},
		{append(bytes.Clone(nine), 0), api.ErrForm},
		{append(bytes.Clone(nine), 2), api.ErrForm},
		{append(bytes.Clone(nine), 128), api.ErrForm},
		{append(bytes.Clone(nine), 255), api.ErrForm},
		{binary.AppendUvarint(nil, api.MaxBytes+1), api.ErrLong},
		{binary.AppendUvarint(nil, 1<<31), api.ErrLong},
		{binary.AppendUvarint(nil, 1<<32), api.ErrLong},
		{binary.AppendUvarint(nil, 1<<63), api.ErrLong},
		{binary.AppendUvarint(nil, math.MaxUint64), api.ErrLong},
	} {
		ahead := laid(text(1, "abc"))
		for _, more := range [][]byte{nil, []byte("abcdefgh")} {
			l = append(l,
				wrong{"length", behind([]byte{1}, x.size, more), x.e, 6 + len(x.size)},
				wrong{"length behind one", behind(ahead, []byte{2}, x.size, more), x.e, 6 + len(ahead) + len(x.size)})
		}
	}
	return l
}

func wrongSums() []wrong {
	b := archive(text(2, "abc"), text(5, "de"))
	var l []wrong
	for at := 7; at < 14; at++ {
		l = append(l,
			wrong{"checksum of the first", changed(b, at, b[at]^1), api.ErrSum, 14},
			wrong{"checksum of the first, no more", changed(b, at, b[at]^128)[:14], api.ErrSum, 14})
	}
	for at := 16; at < 22; at++ {
		l = append(l, wrong{"checksum of the second", changed(b, at, ^b[at]), api.ErrSum, 22})
	}
	return append(l,
		wrong{"checksum: another kind", changed(b, 5, 3), api.ErrSum, 14},
		wrong{"checksum: another kind of the second", changed(b, 14, 6), api.ErrSum, 22},
		wrong{"checksum: a lesser length", changed(b, 6, 2), api.ErrSum, 13},
		wrong{"checksum: a greater length", changed(b, 6, 5), api.ErrSum, 16},
		wrong{"checksum, and more behind it", append(changed(b, 13, b[13]^1)[:14], 255, 255), api.ErrSum, 14})
}

func wrongEnds() []wrong {
	var l []wrong
	for _, s := range several() {
		b := archive(s...)
		for _, more := range [][]byte{{0}, {1}, {255}, {0, 0}, archive(), laid(text(9, "abc"))} {
			l = append(l, wrong{"behind the end", slices.Concat(b, more), api.ErrForm, len(b) + 1})
		}
	}
	return l
}

func TestWrongBytesInWhateverChunks(t *testing.T) {
	for _, x := range slices.Concat(wrongHeads(), wrongKinds(), wrongSizes(), wrongSums(), wrongEnds()) {
		if e, to := told(x.b); e != x.e || to != x.to {
			t.Errorf("%s: Decode tells %d behind %d of % x, not %d behind %d", x.name, e, to, x.b, x.e, x.to)
		}
		for _, l := range slices.Concat(ways(x.b), twice(x.b)) {
			fedUpTo(t, x.b, l, x.e, x.to)
		}
		if t.Failed() {
			t.Fatalf("%s: % x", x.name, x.b)
		}
		for to := range x.to {
			fedUpTo(t, x.b[:to], single(x.b[:to]), api.OK, to)
		}
	}
}

func TestHeldWhereSomethingIsWrong(t *testing.T) {
	ahead := laid(text(5, "abc"))
	nine := bytes.Repeat([]byte{255}, 9)
	for _, x := range []struct {
		name string
		b    []byte
		held int
	}{
		{"head", []byte("LPDY\x02"), 0},
		{"a kind is none: no section begins", behind([]byte{10}), 0},
		{"a kind is none, behind three bytes", behind(ahead, []byte{10}), 3},
		{"a kind is not greater", behind(ahead, []byte{5}), 3},
		{"length", behind(ahead, []byte{6, 128, 0}), 3 + 3},
		{"length of ten bytes", behind([]byte{6}, nine, []byte{2}), 11},
		{"length above the greatest", behind(ahead, []byte{6}, binary.AppendUvarint(nil, api.MaxBytes+1)), 3 + 4},
		{"checksum", behind(ahead, changed(laid(text(7, "defgh")), 10, 0)), 3 + 11},
		{"behind the end", behind(ahead, []byte{0, 0}), 3},
	} {
		for _, l := range ways(append(bytes.Clone(x.b), 1, 2, 3)) {
			f := New()
			if e := f.Feed(l...); e == api.OK || f.Taken() != len(x.b) || f.Held() != x.held {
				t.Errorf("%s: %d, %d taken, %d held", x.name, e, f.Taken(), f.Held())
			}
		}
	}
}

// layout is what is held behind each byte of an archive of these sections, from the first on.
func layout(l ...api.Section) []int {
	held := make([]int, 5)
	read := 0
	for _, s := range l {
		size := len(laid(s))
		for n := 1; n < size; n++ {
			held = append(held, read+n)
		}
		read += len(s.B)
		held = append(held, read)
	}
	return append(held, read)
}

func TestTakenAndHeldBehindEveryByte(t *testing.T) {
	rows := append(several(),
		[]api.Section{noise(1, 127), noise(2, 128), noise(4, 300), {Kind: 5}, noise(9, 40)},
		[]api.Section{text(1, "a"), text(2, "bc"), text(3, "def"), {Kind: 4}, text(5, "g"), text(6, "h"), text(7, ""), text(8, "ij"), text(9, "k")})
	for _, s := range rows {
		b := written(t, s...)
		want := layout(s...)
		if len(want) != len(b) {
			t.Fatalf("%d bytes, %d told", len(b), len(want))
		}
		f := New()
		for i, c := range single(b) {
			if e := f.Feed(c); e != api.OK || f.Taken() != i+1 || f.Held() != want[i] {
				t.Errorf("behind byte %d of % x: %d, %d taken, %d held, not %d", i, brief(b), e, f.Taken(), f.Held(), want[i])
			}
			g := New()
			if e := g.Feed(b[:i+1]); e != api.OK || g.Taken() != i+1 || g.Held() != want[i] {
				t.Errorf("%d bytes of % x: %d, %d taken, %d held, not %d", i+1, brief(b), e, g.Taken(), g.Held(), want[i])
			}
			g.Close()
			if g.Taken() != i+1 || g.Held() != want[i] {
				t.Errorf("closed behind %d bytes of % x: %d taken, %d held, not %d", i+1, brief(b), g.Taken(), g.Held(), want[i])
			}
		}
	}
}

func TestHeldInWords(t *testing.T) {
	f := New()
	for _, x := range []struct {
		b    string
		held int
	}{
		{"LPDY\x01", 0},
		{"\x02", 1},
		{"\x03", 2},
		{"a", 3},
		{"bc", 5},
	} {
		if e := f.Feed([]byte(x.b)); e != api.OK || f.Held() != x.held {
			t.Errorf("behind %q: %d, %d held, not %d", x.b, e, f.Held(), x.held)
		}
	}
	sum := binary.LittleEndian.AppendUint32(nil, crc32.ChecksumIEEE([]byte("\x02\x03abc")))
	for i, held := range []int{6, 7, 8, 3} {
		if e := f.Feed(sum[i : i+1]); e != api.OK || f.Held() != held {
			t.Errorf("behind byte %d of the checksum: %d, %d held, not %d", i, e, f.Held(), held)
		}
	}
	if e := f.Feed([]byte{0}); e != api.OK || f.Held() != 3 {
		t.Errorf("behind the end: %d, %d held", e, f.Held())
	}
}

// fourths are b in four chunks.
func fourths(b []byte) [][]byte {
	return cut(b, len(b)/4, len(b)/2, len(b)/4*3)
}

func TestAsManyBytesAsMayBe(t *testing.T) {
	const around, beside = 6, 1 + 3 + 4
	for _, s := range [][]api.Section{
		{noise(1, api.MaxBytes-around-beside)},
		{noise(4, api.MaxBytes/2-around-beside), noise(5, api.MaxBytes/2-beside)},
	} {
		b := written(t, s...)
		if len(b) != api.MaxBytes {
			t.Fatalf("%d bytes", len(b))
		}
		for _, l := range [][][]byte{{b}, fourths(b), single(b)} {
			fedUpTo(t, b, l, api.OK, len(b))
		}
	}
}

func TestMoreBytesThanMayBeAreToldByClose(t *testing.T) {
	const around, beside = 6, 1 + 3 + 4
	one := archive(noise(1, api.MaxBytes-around-beside+1))
	if len(one) != api.MaxBytes+1 {
		t.Fatalf("%d bytes", len(one))
	}
	two := archive(noise(4, api.MaxBytes/2-around), noise(5, api.MaxBytes/2), text(6, "abc"))
	var all []api.Section
	held := 0
	for kind := 1; kind <= 9; kind++ {
		all = append(all, noise(kind, api.MaxBytes))
		held += api.MaxBytes
	}
	most := archive(all...)
	for _, b := range [][]byte{one, two, most} {
		for _, l := range [][][]byte{{b}, fourths(b), cut(b, api.MaxBytes), cut(b, api.MaxBytes+1), cut(b, len(b)-1)} {
			f := New()
			for _, c := range l {
				if e := f.Feed(c); e != api.OK {
					t.Errorf("Feed: %d behind %d bytes", e, f.Taken())
				}
			}
			if f.Taken() != len(b) {
				t.Errorf("%d taken, not %d", f.Taken(), len(b))
			}
			if l, e := f.Close(); l != nil || e != api.ErrLong {
				t.Errorf("Close: %d sections, %d", len(l), e)
			}
			ended(t, f)
		}
		end := len(b) - 1
		fedUpTo(t, b[:end], fourths(b[:end]), api.OK, end)
		over := append(bytes.Clone(b), 0, 1, 2)
		fedUpTo(t, over, fourths(over), api.ErrForm, len(b)+1)
		sum := changed(b, end-1, b[end-1]^1)
		fedUpTo(t, sum, fourths(sum), api.ErrSum, end)
		kind := changed(b, end, 10)
		fedUpTo(t, kind, fourths(kind), api.ErrForm, end+1)
	}
	f := New()
	if e := f.Feed(most); e != api.OK || f.Held() != held {
		t.Errorf("%d, %d held, not %d", e, f.Held(), held)
	}
}

func TestLongLengthIsToldAtOnce(t *testing.T) {
	b := archive(noise(1, api.MaxBytes+1))
	fedUpTo(t, b, fourths(b), api.ErrLong, 5+1+3)
	b = archive(noise(1, api.MaxBytes))[:100]
	fedUpTo(t, b, fourths(b), api.OK, 100)
}

func TestManyBytesBehindSomethingWrong(t *testing.T) {
	f := New()
	more := make([]byte, 2*api.MaxBytes)
	if e := f.Feed([]byte("LPD"), more, more); e != api.ErrForm || f.Taken() != 4 || f.Held() != 0 {
		t.Errorf("%d %d %d", e, f.Taken(), f.Held())
	}
	broken(t, f, api.ErrForm, 4)
}

func TestErrorsInTheirOrder(t *testing.T) {
	f := New()
	if e := f.Feed([]byte("LPX")); e != api.ErrForm {
		t.Errorf("Feed: %d", e)
	}
	// Of two things that are wrong, the first one stays.
	if e := f.Feed([]byte("LPDY\x01\x0a")); e != api.ErrForm || f.Taken() != 3 {
		t.Errorf("Feed again: %d, %d taken", e, f.Taken())
	}
	if _, e := f.Close(); e != api.ErrForm {
		t.Errorf("Close: %d", e)
	}
	// Closed is told ahead of what was wrong.
	if e := f.Feed(nil); e != api.ErrClosed {
		t.Errorf("Feed of a closed one: %d", e)
	}
	if _, e := f.Close(); e != api.ErrClosed {
		t.Errorf("Close of a closed one: %d", e)
	}
}

// spoiled are archives, some of them changed, cut off or with more behind them.
func spoiled(r *rand.Rand) []byte {
	var l []api.Section
	kind := 0
	for range r.Intn(4) {
		kind += r.Intn(4)
		l = append(l, noise(kind, r.Intn(6)))
	}
	b := archive(l...)
	switch r.Intn(6) {
	case 0:
		b[r.Intn(len(b))] = byte(r.Intn(256))
	case 1:
		b = b[:r.Intn(len(b)+1)]
	case 2:
		b = slices.Insert(b, r.Intn(len(b)+1), byte(r.Intn(256)))
	case 3:
		at := r.Intn(len(b))
		b = slices.Delete(b, at, at+1)
	case 4:
		b = append(b, byte(r.Intn(12)))
	}
	return b
}

// scattered is b in chunks of whatever size, some without bytes.
func scattered(r *rand.Rand, b []byte) [][]byte {
	var l [][]byte
	for len(b) > 0 {
		n := min(r.Intn(6), len(b))
		l = append(l, b[:n])
		b = b[n:]
	}
	return append(l, nil)
}

func TestAnyBytesInAnyChunks(t *testing.T) {
	r := rand.New(rand.NewSource(4))
	for range 20000 {
		b := spoiled(r)
		fed(t, b, scattered(r, b))
	}
	for range 2000 {
		b := make([]byte, r.Intn(20))
		r.Read(b)
		fed(t, b, scattered(r, b))
		b = behind(b)
		fed(t, b, scattered(r, b))
	}
}

func TestEveryShortRow(t *testing.T) {
	digits := []byte{0, 1, 2, 9, 10, 127, 128, 255}
	rows := [][]byte{nil}
	for len(rows) > 0 {
		b := rows[0]
		rows = rows[1:]
		for _, whole := range [][]byte{b, behind(b), behind(laid(text(1, "a")), b)} {
			fed(t, whole, single(whole))
			fed(t, whole, [][]byte{whole})
		}
		if len(b) < 4 {
			for _, c := range digits {
				rows = append(rows, append(bytes.Clone(b), c))
			}
		}
	}
}

func TestFeedersKnowNothingOfOneAnother(t *testing.T) {
	rows := [][]byte{
		archive(text(1, "abc"), text(2, "def")),
		archive(text(1, "ABC"), text(2, "DEF")),
		archive(text(9, "0123")),
		changed(archive(text(1, "abc"), text(2, "def")), 8, 'x'),
	}
	feeders := []*Feeder{New(), New(), New(), New()}
	for at := range len(rows[0]) {
		for i, b := range rows {
			if at < len(b) {
				feeders[i].Feed(b[at : at+1])
			}
		}
	}
	broken(t, feeders[3], api.ErrSum, 14)
	for i, f := range feeders[:3] {
		finished(t, f, rows[i])
	}
}

func TestWhatIsHandedInStays(t *testing.T) {
	b := archive(text(2, "abc"), text(5, "de"), noise(7, 200))
	for _, row := range [][]byte{b, b[:20], append(bytes.Clone(b), 0), changed(b, 9, 0)} {
		whole := slices.Concat(row, []byte("room behind"))
		was := bytes.Clone(whole)
		own := whole[:len(row)]
		for _, l := range [][][]byte{{own}, single(own), fourths(own)} {
			before := slices.Clone(l)
			f := New()
			f.Feed(l...)
			f.Close()
			if !bytes.Equal(whole, was) {
				t.Fatalf("changed % x to % x", was, whole)
			}
			for i := range l {
				if len(l[i]) != len(before[i]) {
					t.Fatal("changed the list of chunks")
				}
			}
		}
	}
}

func TestRoomBehindIsNotRead(t *testing.T) {
	b := archive(text(2, "abc"), text(5, "de"))
	for to := range b {
		f := New()
		if e := f.Feed(b[:to]); e != api.OK || f.Taken() != to {
			t.Errorf("%d bytes: %d, %d taken", to, e, f.Taken())
		}
		if l, e := f.Close(); l != nil || e != api.ErrShort {
			t.Errorf("%d bytes: %v %d", to, l, e)
		}
	}
}

// A caller that reads into one piece of memory again and again is one of those for whom chunks are.
func TestWhatIsHandedInIsNotKept(t *testing.T) {
	want := []api.Section{text(1, "abc"), text(2, ""), text(4, "defghijkl"), noise(9, 150)}
	b := written(t, want...)
	for _, step := range []int{1, 2, 3, 4, 5, 7, 11, 50, len(b)} {
		f := New()
		room := make([]byte, step)
		for c := range slices.Chunk(b, step) {
			n := copy(room, c)
			if e := f.Feed(room[:n]); e != api.OK {
				t.Errorf("Feed by %d: %d", step, e)
			}
			spoil(room)
		}
		l, e := f.Close()
		if !same(l, want) || e != api.OK {
			t.Errorf("by %d: %v %d", step, l, e)
		}
		spoil(room)
		if !same(l, want) {
			t.Errorf("by %d: what came out changed: %v", step, l)
		}
	}
	list := [][]byte{b[:7], b[7:]}
	f := New()
	f.Feed(list...)
	list[0], list[1] = nil, nil
	if l, e := f.Close(); !same(l, want) || e != api.OK {
		t.Errorf("the list of chunks is kept: %v %d", l, e)
	}
}

// spoil changes all bytes of b and of the room behind it.
func spoil(b []byte) {
	b = b[:cap(b)]
	for i := range b {
		b[i] ^= 255
	}
}

func TestWhatComesOutIsNewMemory(t *testing.T) {
	want := []api.Section{text(1, "abc"), text(2, ""), text(4, "defg"), text(9, "h")}
	b := archive(want...)
	was := bytes.Clone(b)
	for i := range want {
		one, two := New(), New()
		one.Feed(b)
		two.Feed(b)
		l, _ := one.Close()
		m, _ := two.Close()
		spoil(l[i].B)
		l[i].B = m[i].B
		if !same(l, want) || !same(m, want) || !bytes.Equal(b, was) {
			t.Errorf("section %d shares memory: %v %v", i, l, m)
		}
		clear(l[:cap(l)])
		if !same(m, want) {
			t.Errorf("lists share memory: %v", m)
		}
		if one.Held() != 8 || one.Taken() != len(b) {
			t.Errorf("the feeder keeps what came out: %d held, %d taken", one.Held(), one.Taken())
		}
	}
}
