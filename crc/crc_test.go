package crc

import (
	"bytes"
	"hash/crc32"
	"math/rand"
	"slices"
	"testing"

	"lapidary/api"
	"lapidary/vint"
)

// byWords is the checksum as the chapter words it, bit by bit.
func byWords(b []byte) uint32 {
	r := uint32(1<<32 - 1)
	for _, c := range b {
		r ^= uint32(c)
		for range 8 {
			if r&1 == 1 {
				r = r>>1 ^ 0xedb88320
			} else {
				r >>= 1
			}
		}
	}
	return r ^ (1<<32 - 1)
}

// rows are bytes of many lengths, edges among them: none, all noughts, all ones, each byte alone.
func rows() [][]byte {
	l := [][]byte{nil, {}, make([]byte, 1), make([]byte, 4), make([]byte, 300), bytes.Repeat([]byte{255}, 4), bytes.Repeat([]byte{255}, 257), []byte("123456789")}
	for c := range 256 {
		l = append(l, []byte{byte(c)})
	}
	r := rand.New(rand.NewSource(2))
	for n := range 70 {
		b := make([]byte, n*n/3)
		r.Read(b)
		l = append(l, b)
	}
	return l
}

func TestOfExamples(t *testing.T) {
	for s, want := range map[string]uint32{
		"":          0,
		"a":         0xe8b7be43,
		"abc":       0x352441c2,
		"123456789": 0xcbf43926,
		"The quick brown fox jumps over the lazy dog": 0x414fa339,
	} {
		if x := Of([]byte(s)); x != want {
			t.Errorf("Of(%q): %x, not %x", s, x, want)
		}
	}
}

func TestOfOnePart(t *testing.T) {
	for _, b := range rows() {
		want := byWords(b)
		if want != crc32.ChecksumIEEE(b) {
			t.Fatalf("% x: the words and the library differ", b)
		}
		if x := Of(b); x != want {
			t.Errorf("Of(% x): %x, not %x", b, x, want)
		}
	}
}

func TestOfNothing(t *testing.T) {
	for _, l := range [][][]byte{nil, {}, {nil}, {{}}, {nil, {}, nil}} {
		if x := Of(l...); x != 0 {
			t.Errorf("Of(%v): %x", l, x)
		}
	}
	if x := Of(); x != 0 {
		t.Errorf("Of(): %x", x)
	}
}

func TestOfParts(t *testing.T) {
	b := []byte("123456789")
	want := uint32(0xcbf43926)
	for i := range len(b) + 1 {
		for j := i; j <= len(b); j++ {
			if x := Of(b[:i], b[i:j], b[j:]); x != want {
				t.Errorf("Of, cut at %d and %d: %x", i, j, x)
			}
			if x := Of(nil, b[:i], []byte{}, b[i:j], nil, b[j:], []byte{}); x != want {
				t.Errorf("Of, cut at %d and %d, with empty parts: %x", i, j, x)
			}
		}
	}
	if x := Of(b[3:], b[:3]); x == want {
		t.Error("Of: the parts' order is to be told")
	}
}

func TestSumParts(t *testing.T) {
	for _, b := range rows() {
		for _, size := range []int{1, 2, 3, 5, 64, 1 << 20} {
			s := New()
			done := 0
			for c := range slices.Chunk(b, size) {
				s.Add(c)
				s.Add(nil)
				done += len(c)
				if s.Sum() != byWords(b[:done]) || s.Len() != done {
					t.Fatalf("% x: of the first %d: %x, %d", b, done, s.Sum(), s.Len())
				}
			}
			if s.Sum() != Of(b) || s.Len() != len(b) {
				t.Fatalf("% x: %x, %d", b, s.Sum(), s.Len())
			}
		}
	}
}

func TestSumGoesOn(t *testing.T) {
	s := New()
	if s == nil || s.Sum() != 0 || s.Len() != 0 {
		t.Fatalf("New: %v", s)
	}
	for _, x := range []struct {
		part string
		sum  uint32
		len  int
	}{
		{"", 0, 0},
		{"a", 0xe8b7be43, 1},
		{"", 0xe8b7be43, 1},
		{"bc", 0x352441c2, 3},
	} {
		s.Add([]byte(x.part))
		for range 2 {
			if s.Sum() != x.sum || s.Len() != x.len {
				t.Errorf("behind %q: %x, %d", x.part, s.Sum(), s.Len())
			}
		}
	}
}

func TestSumsSideBySide(t *testing.T) {
	one, two := New(), New()
	one.Add([]byte("1234"))
	two.Add([]byte("ab"))
	one.Add([]byte("56789"))
	if three := New(); three.Sum() != 0 || three.Len() != 0 {
		t.Errorf("a third one: %x, %d", three.Sum(), three.Len())
	}
	two.Add([]byte("c"))
	if one.Sum() != 0xcbf43926 || one.Len() != 9 {
		t.Errorf("one: %x, %d", one.Sum(), one.Len())
	}
	if two.Sum() != 0x352441c2 || two.Len() != 3 {
		t.Errorf("two: %x, %d", two.Sum(), two.Len())
	}
}

func TestNilSum(t *testing.T) {
	var s *Sum
	for range 2 {
		if s.Sum() != 0 || s.Len() != 0 {
			t.Errorf("a nil Sum: %x, %d", s.Sum(), s.Len())
		}
		s.Add([]byte("abc"))
		s.Add(nil)
	}
}

func TestSumWithoutNew(t *testing.T) {
	var s Sum
	if s.Sum() != 0 || s.Len() != 0 {
		t.Errorf("a Sum of nothing: %x, %d", s.Sum(), s.Len())
	}
	s.Add([]byte("abc"))
	if s.Sum() != 0x352441c2 || s.Len() != 3 {
		t.Errorf("of abc: %x, %d", s.Sum(), s.Len())
	}
}

func TestSealAndCheck(t *testing.T) {
	for _, b := range rows() {
		tail, e := vint.Fixed(uint64(byWords(b)), 4)
		if e != api.OK {
			t.Fatal(e)
		}
		sealed := Seal(b)
		if want := slices.Concat(b, tail); !bytes.Equal(sealed, want) {
			t.Errorf("Seal(% x): % x, not % x", b, sealed, want)
		}
		if x, e := Check(sealed); !bytes.Equal(x, b) || e != api.OK {
			t.Errorf("Check(% x): % x %d", sealed, x, e)
		}
	}
	if x := Seal(nil); !bytes.Equal(x, make([]byte, 4)) {
		t.Errorf("Seal of nothing: % x", x)
	}
	if x := Seal([]byte("abc")); !bytes.Equal(x, []byte{'a', 'b', 'c', 0xc2, 0x41, 0x24, 0x35}) {
		t.Errorf("Seal of abc: % x", x)
	}
}

// refused fails unless b is answered with this error, and with nothing beside it.
func refused(t *testing.T, b []byte, want api.Errno) {
	t.Helper()
	if x, e := Check(b); len(x) != 0 || e != want {
		t.Errorf("Check(% x): % x %d, not %d", b, x, e, want)
	}
}

func TestCheckShort(t *testing.T) {
	for _, b := range [][]byte{nil, {}, {0}, {0, 0}, {0, 0, 0}, {255, 255, 255}, Seal(nil)[:3]} {
		refused(t, b, api.ErrShort)
	}
}

func TestCheckFourBytes(t *testing.T) {
	if x, e := Check(make([]byte, 4)); len(x) != 0 || e != api.OK {
		t.Errorf("Check of four noughts: % x %d", x, e)
	}
	for i := range 32 {
		b := make([]byte, 4)
		b[i/8] = 1 << (i % 8)
		refused(t, b, api.ErrSum)
	}
	refused(t, []byte{255, 255, 255, 255}, api.ErrSum)
	refused(t, []byte("abcd"), api.ErrSum)
}

// flipped is b, with the bits of mask changed from bit at on. A byte's bits come lowest first.
func flipped(b []byte, at int, mask uint32) []byte {
	c := bytes.Clone(b)
	for i := range 32 {
		if mask>>i&1 == 1 && at+i < 8*len(c) {
			c[(at+i)/8] ^= 1 << ((at + i) % 8)
		}
	}
	return c
}

func TestCheckTellsChanges(t *testing.T) {
	r := rand.New(rand.NewSource(32))
	for _, b := range [][]byte{nil, []byte("abc"), []byte("123456789"), make([]byte, 40), bytes.Repeat([]byte{255}, 33)} {
		sealed := Seal(b)
		for at := range 8 * len(sealed) {
			masks := []uint32{1, 3, 1<<31 | 1, 1<<32 - 1}
			for range 40 {
				masks = append(masks, r.Uint32()|1)
			}
			for _, mask := range masks {
				refused(t, flipped(sealed, at, mask), api.ErrSum)
			}
		}
	}
}

func TestCheckTellsWhatIsMissing(t *testing.T) {
	sealed := Seal([]byte("123456789"))
	for end := range len(sealed) {
		want := api.ErrSum
		if end < 4 {
			want = api.ErrShort
		}
		refused(t, sealed[:end], want)
	}
	refused(t, append(bytes.Clone(sealed), 0), api.ErrSum)
	big := bytes.Clone(sealed)
	slices.Reverse(big[9:])
	refused(t, big, api.ErrSum)
}

// spoil changes all bytes of b and of the room behind it.
func spoil(b []byte) {
	b = b[:cap(b)]
	for i := range b {
		b[i] ^= 255
	}
}

func TestArgumentsStay(t *testing.T) {
	whole := append(Seal([]byte("123456789")), "room behind"...)
	was := bytes.Clone(whole)
	b := whole[:13]
	Of(b, b[:3], b)
	New().Add(b)
	Check(b)
	Check(b[:5])
	Seal(b)
	Seal(b[:9])
	if !bytes.Equal(whole, was) {
		t.Errorf("what was handed in is now %q", whole)
	}
}

func TestAddKeepsNoBytes(t *testing.T) {
	s := New()
	b := []byte("abc")
	s.Add(b)
	spoil(b)
	if s.Sum() != 0x352441c2 {
		t.Errorf("of abc: %x", s.Sum())
	}
}

func TestAnswersAreNewMemory(t *testing.T) {
	b := []byte("123456789")
	one, two := Seal(b), Seal(b)
	was := bytes.Clone(two)
	spoil(one)
	if string(b) != "123456789" || !bytes.Equal(two, was) {
		t.Errorf("Seal shares memory: %q, % x", b, two)
	}
	x, _ := Check(two)
	y, _ := Check(two)
	spoil(x)
	if string(y) != "123456789" || !bytes.Equal(two, was) {
		t.Errorf("Check shares memory: %q, % x", y, two)
	}
	spoil(two)
	if string(y) != "123456789" {
		t.Errorf("Check keeps what it was handed: %q", y)
	}
	none := Seal(nil)
	z, _ := Check(none)
	spoil(z)
	if !bytes.Equal(none, make([]byte, 4)) {
		t.Errorf("Check of nothing shares memory: % x", none)
	}
}
