package wide

import (
	"math"
	"math/big"
	"math/rand"
)

// The chapter's words, reckoned with numbers of any length, which carry nothing from word to word.

func power(n uint) *big.Int {
	return new(big.Int).Lsh(big.NewInt(1), n)
}

// valueByWords is Hi times 2^64, and Lo.
func valueByWords(a Num) *big.Int {
	v := new(big.Int).Mul(big.NewInt(int64(a.Hi)), power(64))
	return v.Add(v, new(big.Int).SetUint64(a.Lo))
}

// numByWords is the one wide number from which v differs by a multiple of 2^128.
func numByWords(v *big.Int) Num {
	v = new(big.Int).Add(v, power(127))
	v.Mod(v, power(128)) // from 0 on, as the one that divides is above 0
	v.Sub(v, power(127))
	hi, lo := new(big.Int).DivMod(v, power(64), new(big.Int))
	return Num{Hi: int(hi.Int64()), Lo: lo.Uint64()}
}

func mulByWords(a, b int) Num {
	return numByWords(new(big.Int).Mul(big.NewInt(int64(a)), big.NewInt(int64(b))))
}

// addByWords lets go what is beyond 128 bits of the whole sum alone, once.
func addByWords(a Num, l []Num) Num {
	sum := valueByWords(a)
	for _, n := range l {
		sum.Add(sum, valueByWords(n))
	}
	return numByWords(sum)
}

func dotByWords(l []int) Num {
	sum := new(big.Int)
	for ; len(l) > 0; l = l[2:] {
		sum.Add(sum, new(big.Int).Mul(big.NewInt(int64(l[0])), big.NewInt(int64(l[1]))))
	}
	return numByWords(sum)
}

func intByWords(a Num) (int, bool) {
	v := valueByWords(a)
	if v.Cmp(big.NewInt(math.MinInt64)) < 0 || v.Cmp(big.NewInt(math.MaxInt64)) > 0 {
		return 0, false
	}
	return int(v.Int64()), true
}

// words are those at which something changes, and those next to them.
func words() []int {
	l := []int{math.MinInt, math.MinInt + 1, math.MinInt + 2, math.MaxInt - 1, math.MaxInt - 2, math.MaxInt}
	for _, n := range []int{0, 1, 3, 10, 1 << 16, 1 << 31, 1 << 32, 1 << 33, 3037000499, 1 << 61, 1 << 62, 3 << 61} {
		l = append(l, n-1, n, n+1, -n-1, -n, -n+1)
	}
	return l
}

// nums are wide numbers of all these words: low ones and high ones at their edges.
func nums() []Num {
	var l []Num
	for _, hi := range []int{0, 1, -1, 2, -2, 1 << 32, -1 << 32, 1 << 62, -1 << 62, math.MaxInt - 1, math.MaxInt, math.MinInt, math.MinInt + 1} {
		for _, lo := range []uint64{0, 1, 2, 1 << 32, 1<<63 - 2, 1<<63 - 1, 1 << 63, 1<<63 + 1, math.MaxUint64 - 1, math.MaxUint64} {
			l = append(l, Num{Hi: hi, Lo: lo})
		}
	}
	return l
}

// drawnWord is of any length, so that short ones come too.
func drawnWord(r *rand.Rand) int {
	return int(r.Uint64()) >> r.Intn(64)
}

func drawnNum(r *rand.Rand) Num {
	a := Num{Hi: drawnWord(r), Lo: r.Uint64() >> r.Intn(64)}
	if r.Intn(4) == 0 {
		a.Lo = -a.Lo
	}
	return a
}

func drawnNums(r *rand.Rand, n int) []Num {
	l := make([]Num, n)
	for i := range l {
		l[i] = drawnNum(r)
	}
	return l
}
