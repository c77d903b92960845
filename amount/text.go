package amount

import (
	"strconv"
	"strings"

	"usance/api"
)

const mostWhole = 17 // digits ahead of the point

// Text answers the amount with two decimals.
func Text(v int64) string {
	sign := ""
	if v < 0 {
		sign = "-"
	}
	whole, part := size(v)/100, size(v)%100
	return sign + strconv.FormatUint(whole, 10) + "." + string([]byte{'0' + byte(part/10), '0' + byte(part%10)})
}

// Read answers the number that Text tells so.
func Read(s string) (int64, api.Errno) {
	digits, below := strings.CutPrefix(s, "-")
	whole, part, _ := strings.Cut(digits, ".")
	if !isWhole(whole) || len(part) != 2 || !allDigits(part) {
		return 0, api.ErrText
	}
	// At most 19 digits: they fit a word, though perhaps no int64.
	value := number(whole + part)
	if below && value == 0 {
		return 0, api.ErrText
	}
	return signed(value, below)
}

func isWhole(s string) bool {
	if len(s) == 0 || len(s) > mostWhole || !allDigits(s) {
		return false
	}
	return s[0] != '0' || len(s) == 1
}

func allDigits(s string) bool {
	for i := range len(s) {
		if s[i] < '0' || s[i] > '9' {
			return false
		}
	}
	return true
}

func number(digits string) uint64 {
	var value uint64
	for i := range len(digits) {
		value = value*10 + uint64(digits[i]-'0')
	}
	return value
}
