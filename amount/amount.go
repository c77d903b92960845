// Package amount is layer 1: see shared/doc/01-amount.md.
package amount

import (
	"usance/api"
)

const (
	mostDays = 10000000 // of a stretch that interest is reckoned for
	mostYear = 366      // days of a year
)

// Add answers the sum, or ErrOver.
func Add(a, b int64) (int64, api.Errno) {
	sum := a + b
	// Wrapped round: only then has the sum another sign than both.
	if (a^sum)&(b^sum) < 0 {
		return 0, api.ErrOver
	}
	return sum, api.OK
}

// Sub answers the difference, or ErrOver.
func Sub(a, b int64) (int64, api.Errno) {
	rest := a - b
	// Wrapped round: only with unlike signs, and then away from that of a.
	if (a^b)&(a^rest) < 0 {
		return 0, api.ErrOver
	}
	return rest, api.OK
}

// MulDiv answers a times b over c, rounded.
func MulDiv(a, b, c int64) (int64, api.Errno) {
	if c == 0 {
		return 0, api.ErrZero
	}
	below := (a < 0) != (b < 0) != (c < 0)
	return ratio(times(size(a), size(b)), size(c), below)
}

// Interest answers what p bears in num days of years of den days, rounded once.
func Interest(p, rate, num, den int64) (int64, api.Errno) {
	if !isMoney(p) || rate < 0 || rate > api.PPB || num < 0 || num > mostDays || den < 1 || den > mostYear {
		return 0, api.ErrRange
	}
	// Rate times num is at most 10^16: of the three factors two fit one word.
	return MulDiv(p, rate*num, api.PPB*den)
}

func isMoney(v int64) bool {
	return v >= -api.MaxMoney && v <= api.MaxMoney
}
