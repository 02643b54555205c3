package plane

import "math/bits"

// wide is a whole number of 128 bits, in two's complement.
type wide struct {
	high, low uint64
}

// product tells a times b, whole.
func product(a, b int) wide {
	high, low := bits.Mul64(uint64(a), uint64(b))
	// Mul64 took a negative number for itself and 2^64 more.
	if a < 0 {
		high -= uint64(b)
	}
	if b < 0 {
		high -= uint64(a)
	}
	return wide{high, low}
}

func (w wide) plus(v wide) wide {
	low, carry := bits.Add64(w.low, v.low, 0)
	high, _ := bits.Add64(w.high, v.high, carry)
	return wide{high, low}
}

func (w wide) sign() int {
	switch {
	case int64(w.high) < 0:
		return -1
	case w == wide{}:
		return 0
	}
	return 1
}
