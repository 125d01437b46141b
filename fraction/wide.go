package fraction

import "math/bits"

// wide is an integer of 128 bits in two's complement. The sum of two products of terms of fractions is less than 2^127, so that it always fits.
type wide struct {
	hi, lo uint64
}

func product(a, b int64) wide {
	hi, lo := bits.Mul64(uint64(a), uint64(b))
	// Mul64 takes a negative factor for one that is greater by 2^64.
	if a < 0 {
		hi -= uint64(b)
	}
	if b < 0 {
		hi -= uint64(a)
	}
	return wide{hi: hi, lo: lo}
}

func (w wide) plus(v wide) wide {
	lo, carry := bits.Add64(w.lo, v.lo, 0)
	hi, _ := bits.Add64(w.hi, v.hi, carry)
	return wide{hi: hi, lo: lo}
}

func (w wide) sign() int {
	if w == (wide{}) {
		return 0
	}
	if int64(w.hi) < 0 {
		return -1
	}
	return 1
}

// size returns the number without its sign.
func (w wide) size() wide {
	if w.sign() >= 0 {
		return w
	}
	return wide{hi: ^w.hi, lo: ^w.lo}.plus(wide{lo: 1})
}

// over and rest return the quotient and the rest of a number that is not negative. The divisor is at least 1.
func (w wide) over(divisor uint64) wide {
	lo, _ := bits.Div64(w.hi%divisor, w.lo, divisor)
	return wide{hi: w.hi / divisor, lo: lo}
}

func (w wide) rest(divisor uint64) uint64 { return bits.Rem64(w.hi, w.lo, divisor) }
