package keys_test

import (
	"bytes"
	"encoding/binary"
	"fmt"
	"math"
	"math/rand"
	"slices"
	"strings"
	"testing"

	"usance/api"
	"usance/keys"
)

func num(v int64) api.Part {
	return api.Part{Num: v}
}

func text(s string) api.Part {
	return api.Part{IsText: true, Text: s}
}

func row(parts ...api.Part) []api.Part {
	return parts
}

// same is a row of one part over and over.
func same(part api.Part, n int) []api.Part {
	return slices.Repeat(row(part), n)
}

// told is a row in letters that can be read; of a long one its beginning.
func told(parts []api.Part) string {
	s := ""
	for _, part := range parts[:min(len(parts), 12)] {
		s += fmt.Sprintf("{%t %d %.80q}", part.IsText, part.Num, part.Text)
	}
	return s
}

// form is the chapter's form, told another way: numbers moved above nought, a text's noughts replaced.
func form(parts []api.Part) []byte {
	b := []byte{}
	for _, part := range parts {
		if !part.IsText {
			b = binary.BigEndian.AppendUint64(append(b, 1), uint64(part.Num)-uint64(1<<63))
			continue
		}
		b = append(b, 2)
		b = append(b, strings.ReplaceAll(part.Text, "\x00", "\x00\xff")...)
		b = append(b, 0, 1)
	}
	return b
}

func TestForms(t *testing.T) {
	for _, c := range []struct {
		parts []api.Part
		want  []byte
	}{
		{row(num(1)), []byte{1, 128, 0, 0, 0, 0, 0, 0, 1}},
		{row(num(0)), []byte{1, 128, 0, 0, 0, 0, 0, 0, 0}},
		{row(num(-1)), []byte{1, 127, 255, 255, 255, 255, 255, 255, 255}},
		{row(num(-2)), []byte{1, 127, 255, 255, 255, 255, 255, 255, 254}},
		{row(num(math.MaxInt64)), []byte{1, 255, 255, 255, 255, 255, 255, 255, 255}},
		{row(num(math.MinInt64)), []byte{1, 0, 0, 0, 0, 0, 0, 0, 0}},
		{row(num(math.MinInt64 + 1)), []byte{1, 0, 0, 0, 0, 0, 0, 0, 1}},
		{row(num(0x0102030405060708)), []byte{1, 129, 2, 3, 4, 5, 6, 7, 8}},

		{row(text("")), []byte{2, 0, 1}},
		{row(text("a")), []byte{2, 97, 0, 1}},
		{row(text("ab")), []byte{2, 97, 98, 0, 1}},
		{row(text("\x00")), []byte{2, 0, 255, 0, 1}},
		{row(text("\x00\x00")), []byte{2, 0, 255, 0, 255, 0, 1}},
		{row(text("a\x00b")), []byte{2, 97, 0, 255, 98, 0, 1}},
		{row(text("\x00\xff")), []byte{2, 0, 255, 255, 0, 1}},
		{row(text("\x00\x01")), []byte{2, 0, 255, 1, 0, 1}},
		{row(text("\x01\x02\xfe\xff")), []byte{2, 1, 2, 254, 255, 0, 1}},
		{row(text("é\xc3")), []byte{2, 195, 169, 195, 0, 1}},

		{row(text("e"), text("a1"), num(7)), []byte{2, 101, 0, 1, 2, 97, 49, 0, 1, 1, 128, 0, 0, 0, 0, 0, 0, 7}},
		{row(num(0), text("")), []byte{1, 128, 0, 0, 0, 0, 0, 0, 0, 2, 0, 1}},
		{same(text(""), 3), []byte{2, 0, 1, 2, 0, 1, 2, 0, 1}},
	} {
		if got, errno := keys.Encode(c.parts); !bytes.Equal(got, c.want) || errno != api.OK {
			t.Errorf("Encode(%s) = %v %d, not %v", told(c.parts), got, errno, c.want)
		}
		if got := form(c.parts); !bytes.Equal(got, c.want) {
			t.Errorf("the form of %s is told as %v, not %v", told(c.parts), got, c.want)
		}
		if got, errno := keys.Decode(c.want); !slices.Equal(got, c.parts) || errno != api.OK {
			t.Errorf("Decode(%v) = %s %d, not %s", c.want, told(got), errno, told(c.parts))
		}
	}
}

// The greatest of all that is bounded may be, and one more is refused (P5.1).
func TestBoundsOfEncode(t *testing.T) {
	long := strings.Repeat("x", api.MaxText)
	noughts := strings.Repeat("\x00", api.MaxText)
	// Two such texts have 134 bytes, a third one brings them to 200 and 201.
	three := func(n int) []api.Part { return row(text(long), text(long), text(long[:n])) }
	for _, c := range []struct {
		parts []api.Part
		want  api.Errno
	}{
		{row(text(long)), api.OK},
		{row(text(long + "x")), api.ErrLong},
		{row(num(1), text("a"), text(long+"x")), api.ErrLong},
		{row(text(noughts)), api.OK},
		{row(text(noughts + "\x00")), api.ErrLong},
		{same(num(1), api.MaxParts), api.OK},
		{same(num(1), api.MaxParts+1), api.ErrLong},
		{same(text(""), api.MaxParts), api.OK},
		{same(text(""), api.MaxParts+1), api.ErrLong},
		{same(text("x"), 1<<20), api.ErrLong},
		{three(63), api.OK},
		{three(64), api.ErrKey},
		{same(text(long), 8), api.ErrKey},
		// Noughts are told by two bytes each: these rows have 199, 200 and 201.
		{row(text(noughts), text(noughts[:28]), num(0)), api.OK},
		{row(text(noughts), text(noughts[:28]+"x"), num(0)), api.OK},
		{row(text(noughts), text(noughts[:29]), num(0)), api.ErrKey},
		{nil, api.ErrKey},
		{row(), api.ErrKey},
	} {
		got, errno := keys.Encode(c.parts)
		if errno != c.want {
			t.Errorf("Encode(%s) = %d, not %d", told(c.parts), errno, c.want)
		}
		if errno != api.OK && len(got) > 0 {
			t.Errorf("beside the error %d stands %v", errno, got)
		}
		if errno == api.OK && (!bytes.Equal(got, form(c.parts)) || len(got) > api.MaxKey) {
			t.Errorf("Encode(%s) = %v, not %v", told(c.parts), got, form(c.parts))
		}
	}
	if b, _ := keys.Encode(three(63)); len(b) != api.MaxKey {
		t.Errorf("the longest key has %d bytes", len(b))
	}
}

// What belongs to the other kind is refused, and behind what is too long, ahead of a key that is (P5.1).
func TestMixedParts(t *testing.T) {
	long := strings.Repeat("x", api.MaxText+1)
	full := text(long[:api.MaxText])
	numberWithText := api.Part{Num: 1, Text: "x"}
	textWithNumber := api.Part{IsText: true, Num: -1, Text: "x"}
	for _, c := range []struct {
		parts []api.Part
		want  api.Errno
	}{
		{row(numberWithText), api.ErrRange},
		{row(textWithNumber), api.ErrRange},
		{row(api.Part{Text: "\x00"}), api.ErrRange},
		{row(api.Part{IsText: true, Num: 1}), api.ErrRange},
		{row(api.Part{IsText: true, Num: math.MinInt64}), api.ErrRange},
		{row(num(1), text("a"), numberWithText), api.ErrRange},
		{row(num(1), text("a"), textWithNumber), api.ErrRange},
		// A number's Text is no text: it is not that it is long.
		{row(api.Part{Text: long}), api.ErrRange},
		{row(numberWithText, text(long)), api.ErrLong},
		{row(text(long), numberWithText), api.ErrLong},
		{row(api.Part{IsText: true, Num: 1, Text: long}), api.ErrLong},
		{same(numberWithText, api.MaxParts+1), api.ErrLong},
		{same(textWithNumber, api.MaxParts+1), api.ErrLong},
		{row(full, full, full, full, numberWithText), api.ErrRange},
		{row(textWithNumber, full, full, full), api.ErrRange},
	} {
		if got, errno := keys.Encode(c.parts); len(got) > 0 || errno != c.want {
			t.Errorf("Encode(%s) = %v %d, not %d", told(c.parts), got, errno, c.want)
		}
	}
}

// rising are rows, each behind the one ahead of it by the chapter's order.
func rising() [][]api.Part {
	list := [][]api.Part{}
	for _, v := range []int64{math.MinInt64, math.MinInt64 + 1, -1 << 32, -257, -256, -255, -2, -1, 0, 1, 2, 127, 128, 255, 256, 1 << 32, math.MaxInt64 - 1, math.MaxInt64} {
		list = append(list, row(num(v)), row(num(v), num(math.MinInt64)), row(num(v), num(-1)), row(num(v), num(5)), row(num(v), text("")), row(num(v), text("a")))
	}
	for _, s := range []string{"", "\x00", "\x00\x00", "\x00\x00\x01", "\x00\x01", "\x00\xff", "\x01", "\x01\x00", "\x01\x01", "a", "a\x00", "a\x00\xff", "a\x01", "aa", "b", "\x80", "\xc3\xa9", "\xfe", "\xff", "\xff\x00", "\xff\xff"} {
		list = append(list, row(text(s)), row(text(s), num(math.MinInt64)), row(text(s), num(math.MaxInt64)), row(text(s), text("")), row(text(s), text(""), text("")), row(text(s), text("\xff")))
	}
	return list
}

func TestOrder(t *testing.T) {
	list := rising()
	for i, a := range list {
		for j, b := range list {
			want := 0
			if i < j {
				want = -1
			} else if i > j {
				want = 1
			}
			if got := keys.Compare(a, b); got != want {
				t.Errorf("Compare(%s, %s) = %d, not %d", told(a), told(b), got, want)
			}
			x, _ := keys.Encode(a)
			y, _ := keys.Encode(b)
			if got := bytes.Compare(x, y); got != want {
				t.Errorf("%v and %v, the forms of %s and %s, are ordered %d, not %d", x, y, told(a), told(b), got, want)
			}
		}
	}
}

// What can't be encoded is compared all the same (P5.3).
func TestOrderOfWhatIsNoKey(t *testing.T) {
	long := strings.Repeat("x", 1000)
	for _, c := range []struct {
		a, b []api.Part
		want int
	}{
		{nil, nil, 0},
		{nil, row(), 0},
		{nil, row(num(math.MinInt64)), -1},
		{row(), row(text("")), -1},
		{row(text("")), nil, 1},
		{row(api.Part{Num: 1, Text: "x"}), row(num(1)), 0},
		{row(api.Part{Num: 1, Text: "x"}), row(api.Part{Num: 1, Text: "y"}), 0},
		{row(api.Part{Num: 2, Text: "x"}), row(api.Part{Num: 1, Text: "y"}), 1},
		{row(api.Part{Num: 1, Text: "x"}), row(text("")), -1},
		{row(api.Part{IsText: true, Num: 5, Text: "x"}), row(text("x")), 0},
		{row(api.Part{IsText: true, Num: 5, Text: "x"}), row(api.Part{IsText: true, Num: -5, Text: "x"}), 0},
		{row(api.Part{IsText: true, Num: 5, Text: "x"}), row(api.Part{IsText: true, Num: 6, Text: "w"}), 1},
		{row(api.Part{IsText: true, Num: -5, Text: "x"}), row(num(0)), 1},
		{row(api.Part{Num: 1, Text: "x"}, num(2)), row(num(1), num(3)), -1},
		{row(text(long)), row(text(long)), 0},
		{row(text(long)), row(text(long + "a")), -1},
		{row(text(long + "b")), row(text(long + "a")), 1},
		{same(num(1), 1000), same(num(1), 1000), 0},
		{same(num(1), 1000), same(num(1), 999), 1},
		{append(same(num(1), 999), num(0)), same(num(1), 1000), -1},
		{same(num(1), 9), same(num(1), 10), -1},
	} {
		if got := keys.Compare(c.a, c.b); got != c.want {
			t.Errorf("Compare(%s, %s) = %d, not %d", told(c.a), told(c.b), got, c.want)
		}
		if got := keys.Compare(c.b, c.a); got != -c.want {
			t.Errorf("Compare(%s, %s) = %d, not %d", told(c.b), told(c.a), got, -c.want)
		}
	}
}

func TestNext(t *testing.T) {
	for _, c := range []struct{ b, want []byte }{
		{nil, nil},
		{[]byte{}, nil},
		{[]byte{255}, nil},
		{bytes.Repeat([]byte{255}, 300), nil},
		{[]byte{0}, []byte{1}},
		{[]byte{1}, []byte{2}},
		{[]byte{127}, []byte{128}},
		{[]byte{254}, []byte{255}},
		{[]byte{1, 255}, []byte{2}},
		{[]byte{1, 255, 255}, []byte{2}},
		{[]byte{1, 0}, []byte{1, 1}},
		{[]byte{255, 0}, []byte{255, 1}},
		{[]byte{255, 254, 255}, []byte{255, 255}},
		{[]byte{1, 255, 7}, []byte{1, 255, 8}},
		{append(bytes.Repeat([]byte{7}, 300), 255), append(bytes.Repeat([]byte{7}, 299), 8)},
	} {
		if got := keys.Next(c.b); !bytes.Equal(got, c.want) {
			t.Errorf("Next(%v) = %v, not %v", c.b, got, c.want)
		}
	}
}

// short are all strings of at most three bytes out of some.
func short() [][]byte {
	list := [][]byte{{}}
	for i := 0; len(list[i]) < 3; i++ {
		for _, c := range []byte{0, 1, 2, 127, 128, 254, 255} {
			list = append(list, append(bytes.Clone(list[i]), c))
		}
	}
	return list
}

// Just what is above a string and all that begin with it isn't below its Next (P5.4).
func TestNextByItsWords(t *testing.T) {
	list := short()
	for _, b := range list {
		next := keys.Next(b)
		for _, x := range list {
			behind := bytes.Compare(x, b) > 0 && !bytes.HasPrefix(x, b)
			if got := len(next) > 0 && bytes.Compare(x, next) >= 0; got != behind {
				t.Fatalf("Next(%v) = %v: %v is on the wrong side of it", b, next, x)
			}
		}
	}
}

// The rows that begin with a row are those from its form to the Next of it.
func TestNextEndsRows(t *testing.T) {
	list := rising()
	for _, a := range list {
		lo, _ := keys.Encode(a)
		hi := keys.Next(lo)
		for _, b := range list {
			x, _ := keys.Encode(b)
			begins := len(b) >= len(a) && slices.Equal(b[:len(a)], a)
			if got := bytes.Compare(x, lo) >= 0 && bytes.Compare(x, hi) < 0; got != begins {
				t.Fatalf("%v lies from %v to %v: %t, not %t", x, lo, hi, got, begins)
			}
		}
	}
}

// randomRow is often a key, and often like others.
func randomRow(random *rand.Rand) []api.Part {
	parts := []api.Part{}
	for range random.Intn(5) {
		if random.Intn(2) == 0 {
			parts = append(parts, num(int64(random.Uint64())>>random.Intn(64)))
			continue
		}
		s := make([]byte, random.Intn(4))
		for i := range s {
			s[i] = []byte{0, 1, 2, 97, 254, 255}[random.Intn(6)]
		}
		parts = append(parts, text(string(s)))
	}
	if random.Intn(20) == 0 {
		parts = append(parts, text(strings.Repeat("\x00y", random.Intn(40))))
	}
	return parts
}

// compared is the chapter's order, told another way: by the first place at which the rows differ.
func compared(a, b []api.Part) int {
	for i := range min(len(a), len(b)) {
		x, y := a[i], b[i]
		if x == y {
			continue
		}
		ahead := !x.IsText && y.IsText
		if x.IsText == y.IsText {
			ahead = x.IsText && x.Text < y.Text || !x.IsText && x.Num < y.Num
		}
		if ahead {
			return -1
		}
		return 1
	}
	switch {
	case len(a) < len(b):
		return -1
	case len(a) > len(b):
		return 1
	}
	return 0
}

// Forms are ordered as their rows are, and read back as them (P5.5).
func TestRowsAndForms(t *testing.T) {
	random := rand.New(rand.NewSource(5))
	ahead := row(num(0))
	for range 200000 {
		parts := randomRow(random)
		b, errno := keys.Encode(parts)
		if errno != api.OK {
			if len(parts) > 0 && len(form(parts)) <= api.MaxKey && len(parts[len(parts)-1].Text) <= api.MaxText {
				t.Fatalf("Encode(%s) = %d", told(parts), errno)
			}
			continue
		}
		if !bytes.Equal(b, form(parts)) {
			t.Fatalf("Encode(%s) = %v, not %v", told(parts), b, form(parts))
		}
		if got, errno := keys.Decode(b); !slices.Equal(got, parts) || errno != api.OK {
			t.Fatalf("Decode(%v) = %s %d, not %s", b, told(got), errno, told(parts))
		}
		// Half of them begin as another row does.
		other := ahead
		if random.Intn(2) == 0 {
			other = append(slices.Clone(parts[:random.Intn(len(parts))]), ahead...)
			other = other[:min(len(other), api.MaxParts)]
		}
		want := compared(parts, other)
		if got := keys.Compare(parts, other); got != want {
			t.Fatalf("Compare(%s, %s) = %d, not %d", told(parts), told(other), got, want)
		}
		if x, errno := keys.Encode(other); errno == api.OK && bytes.Compare(b, x) != want {
			t.Fatalf("%v and %v, the forms of %s and %s, are not ordered %d", b, x, told(parts), told(other), want)
		}
		ahead = parts
	}
}
