package amount_test

import (
	"math"
	"math/big"
	"strings"
	"testing"

	"usance/amount"
	"usance/api"
)

func TestTextAndRead(t *testing.T) {
	for _, c := range []struct {
		value int64
		text  string
	}{
		{0, "0.00"}, {5, "0.05"}, {-5, "-0.05"}, {10, "0.10"}, {-99, "-0.99"}, {100, "1.00"}, {-100, "-1.00"},
		{1234, "12.34"}, {100000, "1000.00"}, {api.MaxMoney, "10000000000000.00"},
		{math.MaxInt64, "92233720368547758.07"}, {math.MinInt64, "-92233720368547758.08"},
	} {
		if got := amount.Text(c.value); got != c.text {
			t.Errorf("Text(%d) = %q, not %q", c.value, got, c.text)
		}
		if got := told(amount.Read(c.text)); got != (answer{c.value, api.OK}) {
			t.Errorf("Read(%q) = %v, not %d", c.text, got, c.value)
		}
	}
}

func TestReadRefuses(t *testing.T) {
	for _, s := range []string{
		"", "-", ".", "-.", "1", "1.", "1.5", "1.555", ".10", "-.10", "01.00", "00.00", "-01.00", "-0.00", "+1.00",
		"--1.00", "1-.00", "1.-1", "1.0-", "1..00", "1.0.0", "1.00.", "1,00", " 1.00", "1.00 ", "1 .00", "1.00\n", "1.00\x00",
		"1e2.00", "0x1.00", "1_0.00", "a.00", "1.a0", "1.0a", "/.00", ":.00", "1./0", "1.0:", "\u0661.00", "1.\xff0", "\u2212" + "1.00",
		"123456789012345678.00", "-123456789012345678.00", "000000000000000000.00", strings.Repeat("9", 5000) + ".00", "1." + strings.Repeat("0", 5000), strings.Repeat("-", 5000),
	} {
		if got := told(amount.Read(s)); got != (answer{0, api.ErrText}) {
			t.Errorf("Read(%q) = %v, not ErrText", s, got)
		}
	}
	for _, s := range []string{"99999999999999999.99", "-99999999999999999.99", "92233720368547758.08", "-92233720368547758.09"} {
		if got := told(amount.Read(s)); got != (answer{0, api.ErrOver}) {
			t.Errorf("Read(%q) = %v, not ErrOver", s, got)
		}
	}
}

func TestReadBack(t *testing.T) {
	for _, v := range append(edges(), random(20000)...) {
		text := amount.Text(v)
		if got := told(amount.Read(text)); got != (answer{v, api.OK}) {
			t.Fatalf("Read(%q) = %v, not %d", text, got, v)
		}
	}
}

// readByBig asks the form byte by byte: another way than the program's.
func readByBig(s string) (int64, api.Errno) {
	digits := strings.TrimPrefix(s, "-")
	n := len(digits)
	if n < 4 || n > 20 || digits[n-3] != '.' || digits[0] == '0' && n > 4 || s == "-0.00" {
		return 0, api.ErrText
	}
	for i := range n {
		if i != n-3 && (digits[i] < '0' || digits[i] > '9') {
			return 0, api.ErrText
		}
	}
	value, _ := new(big.Int).SetString(strings.Replace(s, ".", "", 1), 10)
	return fit(value)
}

// All short texts of the letters that matter.
func TestReadEverywhere(t *testing.T) {
	letters := "-.019a"
	texts := []string{""}
	for range 6 {
		var longer []string
		for _, text := range texts {
			if got, want := told(amount.Read(text)), told(readByBig(text)); got != want {
				t.Fatalf("Read(%q) = %v, not %v", text, got, want)
			}
			for _, letter := range letters {
				longer = append(longer, text+string(letter))
			}
		}
		texts = longer
	}
	for _, text := range texts {
		if got, want := told(amount.Read(text)), told(readByBig(text)); got != want {
			t.Fatalf("Read(%q) = %v, not %v", text, got, want)
		}
	}
}
