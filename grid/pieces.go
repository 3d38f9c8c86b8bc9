package grid

import (
	"math"
)

// A float is 64 bits: from the lowest one on its digits but the first, its power, and its sign.
const (
	digitBits = 52
	powerBits = 11

	firstDigit = 1 << digitBits   // stands in no bits, as every number but the smallest ones has it
	topPower   = 1<<powerBits - 1 // infinities and NaN have it, and no other
	evenPower  = 1075             // with it the digits are the number: each power above it is twice as much
)

// pieces are the bits of a float, taken apart: digits times 2^(power - evenPower), unless power is topPower.
type pieces struct {
	sign   bool
	power  int
	digits uint64 // below 2^53
}

// apart only moves bits: no digit is lost.
func apart(x float64) pieces {
	bits := math.Float64bits(x)
	p := pieces{
		sign:   bits>>(digitBits+powerBits) != 0,
		power:  int(bits >> digitBits & topPower),
		digits: bits & (firstDigit - 1),
	}
	// The smallest numbers lack the first digit, and are as fine as those of the power above them.
	if p.power == 0 {
		p.power = 1
	} else {
		p.digits |= firstDigit
	}
	return p
}

// infinite is asked of numbers alone: NaN has the same power.
func (p pieces) infinite() bool {
	return p.power == topPower
}

func (p pieces) nought() bool {
	return p.digits == 0
}

func (p pieces) small() bool {
	return p.digits < firstDigit
}

// split is what they are times 2^up, without the sign: the whole number, the rest behind it, and what would be a half of one in that rest's measure.
func (p pieces) split(up int) (whole, rest, half uint64) {
	behind := evenPower - p.power - up // so many digits stand behind the whole number
	if behind <= 0 {
		// All digits are whole, and so many that it is no coordinate, whether there are more of them or not. Infinities end here too.
		return firstDigit, 0, 1
	}
	// From here on all digits lie below the half: if they stood farther behind, the answer would be of the same kind.
	behind = min(behind, digitBits+2)
	one := uint64(1) << behind
	return p.digits >> behind, p.digits & (one - 1), one / 2
}

func (p pieces) signed(whole uint64) int {
	if p.sign {
		return -int(whole)
	}
	return int(whole)
}
