package coder

import "lapidary/api"

const (
	places = 5         // how many digits N has in the beginning
	window = 1 << 32   // its last four digits, to which is added, are below this
	full   = 1<<32 - 1 // R in the beginning
	least  = 1 << 24   // R is not left below this, so that each share of the greatest whole is some of it
)

// held is what both ways know of N and R: of N the last four digits alone, which are held back, as what comes may be
// added to them and carry beyond them.
type held struct {
	modelSet
	low   uint64 // the last four digits, and above them what is to be carried
	width uint64 // R
}

// hold is the beginning.
func hold(set modelSet) held {
	return held{modelSet: set, width: full}
}

// part is R's part for one of m's whole.
func (h *held) part(m int) uint64 {
	return h.width / uint64(h.whole(m))
}

// take goes to the share of c, and counts c.
func (h *held) take(c api.Code) {
	q := h.part(c.Model)
	from, count := h.share(c)
	h.low += q * uint64(from)
	h.width = q * uint64(count)
	h.count(c)
}

// narrow tells that one more digit is due.
func (h *held) narrow() bool {
	return h.width < least
}

// widen gives N one more digit, and lets go of the highest one held back, and of what is carried.
func (h *held) widen() {
	h.low = h.low << 8 % window
	h.width <<= 8
}

// writer keeps N's digits. Those ahead of the ones held back are settled but for one carry that may still come: it
// goes through each 255 and ends in the digit ahead of these.
type writer struct {
	held
	settled []byte
	ahead   byte // the first digit that is not settled
	run     int  // how many of 255 are behind it
}

// put takes codes, one behind the other.
func (w *writer) put(l ...api.Code) {
codes:
	for _, c := range l {
		w.take(c)
		for ; ; w.shift() {
			if !w.narrow() {
				continue codes
			}
		}
	}
}

// shift lets one digit out of those held back.
func (w *writer) shift() {
	digit := byte(w.low >> 24)
	if digit == 255 && w.low < window {
		w.run++
	} else {
		w.settle()
		w.ahead = digit
	}
	w.widen()
}

// settle carries what is to be carried. No second carry comes: N and R together stay below where it would begin.
func (w *writer) settle() {
	carry := byte(w.low / window)
	w.settled = append(w.settled, w.ahead+carry)
	for range w.run {
		w.settled = append(w.settled, 255+carry)
	}
	w.run = 0
}

// digits is all of N, behind the last code.
func (w *writer) digits() []byte {
	w.settle()
	return append(w.settled, byte(w.low>>24), byte(w.low>>16), byte(w.low>>8), byte(w.low))
}

// reader follows the N that a writer of the same codes would have, beside a number that is given.
type reader struct {
	held
	last   uint64 // the given number's digits as far as low goes, of which rest takes the last four
	behind []byte // those that follow
}

// rest is how far the given number is beyond N: less than window, so that it is told by the last digits alone.
func (r *reader) rest() uint64 {
	return (r.last - r.low) % window
}

// codes is one code of each of these models, if they lead to just the given number.
func (r *reader) codes(models []int) ([]api.Code, api.Errno) {
	l := make([]api.Code, 0, len(models))
codes:
	for _, m := range models {
		s, ok := r.find(m, int(r.rest()/r.part(m)))
		if !ok {
			break codes
		}
		c := api.Code{Model: m, Sym: s}
		for r.take(c); r.narrow(); r.shift() {
			if len(r.behind) == 0 {
				break codes
			}
		}
		l = append(l, c)
	}
	if len(l) < len(models) || len(r.behind) > 0 || r.rest() != 0 {
		return nil, api.ErrForm
	}
	return l, api.OK
}

// shift takes one digit from behind.
func (r *reader) shift() {
	r.last = r.last<<8 | uint64(r.behind[0])
	r.behind = r.behind[1:]
	r.widen()
}

// number is the one of these digits.
func number(b []byte) uint64 {
	n := uint64(0)
	for _, x := range b {
		n = n<<8 | uint64(x)
	}
	return n
}
