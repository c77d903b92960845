package amount

import (
	"math"
	"math/bits"

	"usance/api"
)

// wide is a whole number of 128 bits.
type wide struct {
	high, low uint64
}

// size is v without its sign; as a uint64 it holds that of the least int64 too.
func size(v int64) uint64 {
	if v < 0 {
		return -uint64(v)
	}
	return uint64(v)
}

// halves answers the higher and the lower half of a word.
func halves(v uint64) (uint64, uint64) {
	return v >> 32, uint64(uint32(v))
}

// times multiplies half by half: a product of halves, and two halves more, still fit one word.
func times(a, b uint64) wide {
	aHigh, aLow := halves(a)
	bHigh, bLow := halves(b)
	carry, lowest := halves(aLow * bLow)
	carry, second := halves(aHigh*bLow + carry)
	above, second := halves(aLow*bHigh + second)
	return wide{high: aHigh*bHigh + carry + above, low: second<<32 | lowest}
}

// over answers the quotient rounded down and the remainder; false, if the quotient fits no word.
func (w wide) over(by uint64) (uint64, uint64, bool) {
	if w.high >= by {
		return 0, 0, false
	}
	quotient, rest := bits.Div64(w.high, w.low, by)
	return quotient, rest, true
}

// ratio answers w over by, which isn't 0, rounded, with its sign.
func ratio(w wide, by uint64, below bool) (int64, api.Errno) {
	quotient, rest, ok := w.over(by)
	// Asked ahead of rounding, which would turn the greatest word into 0.
	if !ok || quotient > 1<<63 {
		return 0, api.ErrOver
	}
	// What is missing to the next one is held against the rest: twice the rest may fit no word.
	missing := by - rest
	if rest > missing || rest == missing && quotient&1 == 1 {
		quotient++
	}
	return signed(quotient, below)
}

// signed answers v with its sign, or ErrOver.
func signed(v uint64, below bool) (int64, api.Errno) {
	switch {
	case below && v <= 1<<63:
		return int64(-v), api.OK
	case !below && v <= math.MaxInt64:
		return int64(v), api.OK
	}
	return 0, api.ErrOver
}
