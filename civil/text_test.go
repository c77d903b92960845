package civil_test

import (
	"strings"
	"testing"
	"time"

	"usance/api"
	"usance/civil"
)

func TestTextAndRead(t *testing.T) {
	for _, c := range []struct {
		day  int
		text string
	}{
		{0, "1970-01-01"}, {-1, "1969-12-31"}, {11016, "2000-02-29"}, {19782, "2024-02-29"}, {api.FirstDay, "0001-01-01"}, {api.LastDay, "9999-12-31"},
		{api.FirstDay + 365*9 + 2, "0010-01-01"}, {20016, "2024-10-20"},
	} {
		if got, errno := civil.Text(c.day); got != c.text || errno != api.OK {
			t.Errorf("Text(%d) = %q, %v, not %q", c.day, got, errno, c.text)
		}
		if got := told(civil.Read(c.text)); got != (answer{c.day, api.OK}) {
			t.Errorf("Read(%q) = %v, not %d", c.text, got, c.day)
		}
	}
}

func TestEveryText(t *testing.T) {
	when := time.Date(1, 1, 1, 0, 0, 0, 0, time.UTC)
	for day := api.FirstDay; day <= api.LastDay; day++ {
		text, errno := civil.Text(day)
		if got := told(civil.Read(text)); errno != api.OK || got != (answer{day, api.OK}) {
			t.Fatalf("Text(%d) = %q, %v; Read of it %v", day, text, errno, got)
		}
		if day%11 == 0 && text != when.AddDate(0, 0, day-api.FirstDay).Format(time.DateOnly) {
			t.Fatalf("Text(%d) = %q", day, text)
		}
	}
}

func TestReadRefusesForms(t *testing.T) {
	for _, s := range []string{
		"", "-", "2024", "2024-2-03", "2024-02-3", "024-02-03", "2024-02-033", "02024-02-03", "2024/02/03", "2024-02/03", "2024/02-03", "20240203", "2024-0203", "2024002-03", "2024-02003",
		" 2024-02-03", "2024-02-03 ", "2024-02-0 ", " 024-02-03", "2024- 2-03", "-024-02-03", "+024-02-03", "2024--2-03", "2024-02--3", "2024-02-+3",
		"2024-0a-03", "a024-02-03", "2024-02-0a", "202x-02-03", "/024-02-03", ":024-02-03", "2024-/2-03", "2024-:2-03", "2024-02-0/", "2024-02-0:",
		"2024-02-0\x00", "2024-02-0\n", "2024\xad02-03", "\xff024-02-03", "2024-02-\u0660", "\u0662024-02-3", "202\u0664-02-3", "2024\u201002-03", "2024-02-03T00:00", "----------", "0000000000",
		strings.Repeat("0", 5000), "2024-02-03" + strings.Repeat("-", 5000),
	} {
		if got := told(civil.Read(s)); got != (answer{0, api.ErrText}) {
			t.Errorf("Read(%q) = %v, not ErrText", s, got)
		}
	}
}

func TestReadRefusesDates(t *testing.T) {
	for _, s := range []string{
		"0000-01-01", "0000-00-00", "2024-00-01", "2024-13-01", "2024-99-01", "2024-01-00", "2024-01-32", "2024-01-99", "2024-02-30", "2023-02-29", "1900-02-29", "2024-04-31", "9999-12-32", "9999-99-99", "0000-12-31",
	} {
		if got := told(civil.Read(s)); got != (answer{0, api.ErrDate}) {
			t.Errorf("Read(%q) = %v, not ErrDate", s, got)
		}
	}
}

// Every byte at every place: digits and the two dashes alone make a form.
func TestReadEveryByte(t *testing.T) {
	for place := range 10 {
		for letter := range 256 {
			text := []byte("2024-11-11")
			text[place] = byte(letter)
			dash := place == 4 || place == 7
			good := dash && letter == '-' || !dash && letter >= '0' && letter <= '9'
			if _, errno := civil.Read(string(text)); (errno == api.ErrText) == good {
				t.Errorf("Read(%q): %v", text, errno)
			}
		}
	}
}
