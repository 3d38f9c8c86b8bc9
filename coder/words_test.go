package coder

import (
	"bytes"
	"math/big"
	"math/rand"
	"slices"
	"testing"

	"lapidary/api"
)

// byWords is N and R as the chapter words them, N being one whole number, and counts as layer 5's chapter words them.
type byWords struct {
	n      *big.Int
	digits int
	r      uint64
	counts [][]int
	ends   []uint64 // R of each code, ahead of digits that it makes
	halved int      // how often counts were
}

func wordsOf(sizes []int) *byWords {
	w := &byWords{n: new(big.Int), digits: 5, r: 1<<32 - 1}
	for _, size := range sizes {
		w.counts = append(w.counts, slices.Repeat([]int{1}, size))
	}
	return w
}

// whole is what the chapter calls W.
func (w *byWords) whole(m int) uint64 {
	if m < 0 {
		return 1 << -m
	}
	sum := 0
	for _, c := range w.counts[m] {
		sum += c
	}
	return uint64(sum)
}

// share is where c's begins, and how much it is.
func (w *byWords) share(c api.Code) (uint64, uint64) {
	if c.Model < 0 {
		return uint64(c.Sym), 1
	}
	from := 0
	for _, x := range w.counts[c.Model][:c.Sym] {
		from += x
	}
	return uint64(from), uint64(w.counts[c.Model][c.Sym])
}

func (w *byWords) count(c api.Code) {
	if c.Model < 0 {
		return
	}
	l := w.counts[c.Model]
	l[c.Sym] += 32
	if w.whole(c.Model) > 8192 {
		for i, x := range l {
			l[i] = (x + 1) / 2
		}
		w.halved++
	}
}

func (w *byWords) code(c api.Code) {
	q := w.r / w.whole(c.Model)
	from, share := w.share(c)
	w.n.Add(w.n, new(big.Int).SetUint64(q*from))
	w.r = q * share
	w.ends = append(w.ends, w.r)
	for w.r < 1<<24 {
		w.r *= 256
		w.n.Lsh(w.n, 8)
		w.digits++
	}
	w.count(c)
}

func (w *byWords) bytes() []byte {
	return w.n.FillBytes(make([]byte, w.digits))
}

// said is all that the words make of l.
func said(sizes []int, l []api.Code) *byWords {
	w := wordsOf(sizes)
	for _, c := range l {
		w.code(c)
	}
	return w
}

// toward is the codes whose shares the number lies in that begins with b, noughts behind it; fewer, if it is beyond
// all shares.
func toward(sizes, models []int, b []byte) []api.Code {
	w := wordsOf(sizes)
	var l []api.Code
	goal, has := new(big.Int), 0
	for _, m := range models {
		for ; has < w.digits; has++ {
			goal.Lsh(goal, 8)
			if has < len(b) {
				goal.Add(goal, big.NewInt(int64(b[has])))
			}
		}
		q := w.r / w.whole(m)
		v := new(big.Int).Sub(goal, w.n)
		v.Div(v, new(big.Int).SetUint64(q))
		if v.Cmp(new(big.Int).SetUint64(w.whole(m))) >= 0 {
			return l
		}
		c := api.Code{Model: m, Sym: symbolAt(w, m, v.Uint64())}
		l = append(l, c)
		w.code(c)
	}
	return l
}

// symbolAt is the symbol in whose share v lies.
func symbolAt(w *byWords, m int, v uint64) int {
	if m < 0 {
		return int(v)
	}
	for s := range w.counts[m] {
		if from, share := w.share(api.Code{Model: m, Sym: s}); from <= v && v < from+share {
			return s
		}
	}
	panic("no symbol")
}

// read is what Decode must answer of bytes, if its models may be.
func read(sizes, models []int, b []byte) ([]api.Code, api.Errno) {
	l := toward(sizes, models, b)
	if len(l) == len(models) && bytes.Equal(said(sizes, l).bytes(), b) {
		return l, api.OK
	}
	return nil, api.ErrForm
}

// modelsIn are those of l.
func modelsIn(l []api.Code) []int {
	var models []int
	for _, c := range l {
		models = append(models, c.Model)
	}
	return models
}

// encoded is Encode of what may be.
func encoded(t *testing.T, sizes []int, l ...api.Code) []byte {
	t.Helper()
	b, e := Encode(sizes, l...)
	if e != api.OK {
		t.Fatalf("Encode(%v, %d codes): %d", sizes, len(l), e)
	}
	return b
}

// holds goes there, as the words do, and back.
func holds(t *testing.T, sizes []int, l ...api.Code) []byte {
	t.Helper()
	b := encoded(t, sizes, l...)
	if want := said(sizes, l).bytes(); !bytes.Equal(b, want) {
		t.Fatalf("Encode(%v, %d codes): %d bytes, not %d, other ones from %d on", sizes, len(l), len(b), len(want), differ(b, want))
	}
	back, e := Decode(sizes, modelsIn(l), b)
	if e != api.OK || !slices.Equal(back, l) {
		t.Fatalf("Decode(%v, %d models): %d codes, %d", sizes, len(l), len(back), e)
	}
	return b
}

// differ is the place from which on two rows are not the same.
func differ(a, b []byte) int {
	for i := range min(len(a), len(b)) {
		if a[i] != b[i] {
			return i
		}
	}
	return min(len(a), len(b))
}

// reads holds Decode against the words, whether these bytes are any or none.
func reads(t *testing.T, sizes, models []int, b []byte) {
	t.Helper()
	want, e := read(sizes, models, b)
	l, g := Decode(sizes, models, b)
	if g != e || !slices.Equal(l, want) {
		t.Fatalf("Decode(%v, %v, % x): %v %d, not %v %d", sizes, models, b, l, g, want, e)
	}
	if g == api.OK && !bytes.Equal(encoded(t, sizes, l...), b) {
		t.Fatalf("Decode(%v, %v, % x): %v, of which Encode makes others", sizes, models, b, l)
	}
}

// refused is no bytes, for whatever reason.
func refused(t *testing.T, what string, b []byte, e, want api.Errno) {
	t.Helper()
	if len(b) != 0 || e != want {
		t.Errorf("%s: %d bytes, %d, not %d", what, len(b), e, want)
	}
}

// unread is no codes, for whatever reason.
func unread(t *testing.T, what string, l []api.Code, e, want api.Errno) {
	t.Helper()
	if len(l) != 0 || e != want {
		t.Errorf("%s: %d codes, %d, not %d", what, len(l), e, want)
	}
}

// randomSizes are up to 16 that models may have, edges among them.
func randomSizes(r *rand.Rand) []int {
	sizes := make([]int, r.Intn(17))
	for i := range sizes {
		sizes[i] = []int{1, 2, 256, 1 + r.Intn(10), 1 + r.Intn(256)}[r.Intn(5)]
	}
	return sizes
}

// randomCode is a code of one of the models, or a plain one.
func randomCode(r *rand.Rand, sizes []int) api.Code {
	m := r.Intn(len(sizes)+16) - 16
	if m < 0 {
		return api.Code{Model: m, Sym: r.Intn(1 << -m)}
	}
	return api.Code{Model: m, Sym: r.Intn(1 + r.Intn(sizes[m]))}
}

func randomCodes(r *rand.Rand, sizes []int, n int) []api.Code {
	var l []api.Code
	for range n {
		l = append(l, randomCode(r, sizes))
	}
	return l
}
