package civil

import (
	"usance/api"
)

const textLength = 10

// Text answers the day as year, month and day of the month, or ErrDate.
func Text(day int) (string, api.Errno) {
	y, m, d, errno := Split(day)
	if errno != api.OK {
		return "", errno
	}
	return digits(y, 4) + "-" + digits(m, 2) + "-" + digits(d, 2), api.OK
}

// Read answers the day that Text tells so; or ErrText, or ErrDate.
func Read(s string) (int, api.Errno) {
	if !isForm(s) {
		return 0, api.ErrText
	}
	return Of(number(s[:4]), number(s[5:7]), number(s[8:]))
}

func isForm(s string) bool {
	if len(s) != textLength {
		return false
	}
	for i := range textLength {
		if i == 4 || i == 7 {
			if s[i] != '-' {
				return false
			}
		} else if s[i] < '0' || s[i] > '9' {
			return false
		}
	}
	return true
}

func digits(v, width int) string {
	text := make([]byte, width)
	for i := width - 1; i >= 0; i-- {
		text[i] = '0' + byte(v%10)
		v /= 10
	}
	return string(text)
}

func number(s string) int {
	v := 0
	for i := range len(s) {
		v = 10*v + int(s[i]-'0')
	}
	return v
}
