package varint_test

import (
	"bytes"
	"math"
	"math/rand"
	"slices"
	"testing"

	"usance/api"
	"usance/varint"
)

func TestUint(t *testing.T) {
	full := bytes.Repeat([]byte{255}, 9)
	for _, c := range []struct {
		b    []byte
		at   int
		want answer
	}{
		{[]byte{0}, 0, answer{0, 1, api.OK}},
		{[]byte{127}, 0, answer{127, 1, api.OK}},
		{[]byte{172, 2}, 0, answer{300, 2, api.OK}},
		{[]byte{172, 2}, 1, answer{2, 2, api.OK}},
		{[]byte{9, 9, 172, 2, 9}, 2, answer{300, 4, api.OK}},
		{[]byte{0, 0}, 0, answer{0, 1, api.OK}},
		{[]byte{0, 0}, 1, answer{0, 2, api.OK}},
		{append(bytes.Clone(full), 1), 0, answer{math.MaxUint64, 10, api.OK}},
		{append(bytes.Clone(full), 1, 5), 0, answer{math.MaxUint64, 10, api.OK}},
		{append(bytes.Clone(full), 1, 5), 1, answer{math.MaxUint64 >> 7, 10, api.OK}},
		{[]byte{255, 128, 1}, 0, answer{127 + 1<<14, 3, api.OK}},
		{[]byte{128, 128, 128, 128, 128, 128, 128, 128, 128, 1}, 0, answer{1 << 63, 10, api.OK}},

		{nil, 0, answer{0, 0, api.ErrTorn}},
		{[]byte{}, 0, answer{0, 0, api.ErrTorn}},
		{[]byte{1}, 1, answer{0, 0, api.ErrTorn}},
		{[]byte{128}, 0, answer{0, 0, api.ErrTorn}},
		{[]byte{1, 128}, 1, answer{0, 0, api.ErrTorn}},
		{[]byte{255, 255, 255}, 0, answer{0, 0, api.ErrTorn}},
		{full, 0, answer{0, 0, api.ErrTorn}},
		{bytes.Repeat([]byte{128}, 9), 0, answer{0, 0, api.ErrTorn}},

		{[]byte{128, 0}, 0, answer{0, 0, api.ErrCorrupt}},
		{[]byte{129, 0}, 0, answer{0, 0, api.ErrCorrupt}},
		{[]byte{255, 128, 0, 1}, 0, answer{0, 0, api.ErrCorrupt}},
		{append(bytes.Clone(full), 0), 0, answer{0, 0, api.ErrCorrupt}},
		{append(bytes.Clone(full), 2), 0, answer{0, 0, api.ErrCorrupt}},
		{append(bytes.Clone(full), 127), 0, answer{0, 0, api.ErrCorrupt}},
		// The tenth byte is asked when it is there, though none below 128 comes.
		{append(bytes.Clone(full), 128), 0, answer{0, 0, api.ErrCorrupt}},
		{append(bytes.Clone(full), 129), 0, answer{0, 0, api.ErrCorrupt}},
		{append(bytes.Clone(full), 255), 0, answer{0, 0, api.ErrCorrupt}},
		{append(bytes.Clone(full), 128, 1), 0, answer{0, 0, api.ErrCorrupt}},
		{append(bytes.Clone(full), 129, 0), 0, answer{0, 0, api.ErrCorrupt}},
		{append(bytes.Clone(full), 255, 255, 255), 0, answer{0, 0, api.ErrCorrupt}},
		{append(bytes.Clone(full), 255, 2), 1, answer{0, 0, api.ErrCorrupt}},
		{bytes.Repeat([]byte{128}, 64), 0, answer{0, 0, api.ErrCorrupt}},
		{bytes.Repeat([]byte{128}, 64), 54, answer{0, 0, api.ErrCorrupt}},
		{bytes.Repeat([]byte{128}, 64), 55, answer{0, 0, api.ErrTorn}},
	} {
		if got := told(varint.Uint(c.b, c.at)); got != c.want {
			t.Errorf("Uint(%v, %d) = %v, not %v", c.b, c.at, got, c.want)
		}
	}
}

// places are numbers that are no place of so many bytes.
func places(n int) []int {
	return []int{-1, n + 1, n + 2, -n - 1, math.MinInt, math.MinInt + 1, math.MaxInt, math.MaxInt - 1, 1 << 32, -1 << 32}
}

func TestNoPlace(t *testing.T) {
	for _, b := range [][]byte{nil, {}, {1}, {128}, {128, 0}, {1, 65}, bytes.Repeat([]byte{255}, 20)} {
		// A place in the spare room is none.
		wide := append(bytes.Clone(b), 1, 1, 1)[:len(b)]
		for _, at := range places(len(b)) {
			if got := told(varint.Uint(wide, at)); got != (answer{0, 0, api.ErrRange}) {
				t.Errorf("Uint(%v, %d) = %v, not ErrRange", b, at, got)
			}
			if got := toldInt(varint.Int(wide, at)); got != (signed{0, 0, api.ErrRange}) {
				t.Errorf("Int(%v, %d) = %v, not ErrRange", b, at, got)
			}
			for _, most := range []int{-1, 0, 1, math.MaxInt, math.MinInt} {
				if x, next, errno := varint.Bytes(wide, at, most); len(x) > 0 || next != 0 || errno != api.ErrRange {
					t.Errorf("Bytes(%v, %d, %d) = %v %d %d, not ErrRange", b, at, most, x, next, errno)
				}
			}
		}
	}
}

// Spare room behind the bytes is not read: they end where they end.
func TestSpareRoomIsNotRead(t *testing.T) {
	whole := []byte{128, 128, 1, 3, 65, 66, 67}
	for _, n := range []int{1, 2} {
		if got := told(varint.Uint(whole[:n], 0)); got != (answer{0, 0, api.ErrTorn}) {
			t.Errorf("Uint of %v = %v, not ErrTorn", whole[:n], got)
		}
	}
	for _, n := range []int{4, 5, 6} {
		if x, next, errno := varint.Bytes(whole[:n], 3, 9); len(x) > 0 || next != 0 || errno != api.ErrTorn {
			t.Errorf("Bytes of %v = %v %d %d, not ErrTorn", whole[:n], x, next, errno)
		}
	}
}

// letters are bytes at which what is read turns out otherwise.
func letters() []byte {
	return []byte{0, 1, 2, 3, 63, 64, 126, 127, 128, 129, 130, 191, 192, 254, 255}
}

func TestUintByItsWords(t *testing.T) {
	random := rand.New(rand.NewSource(44))
	for range 200000 {
		b := make([]byte, random.Intn(14))
		for i := range b {
			b[i] = letters()[random.Intn(15)]
			// Long forms come seldom, if each byte may end them.
			if random.Intn(4) > 0 {
				b[i] |= 128
			}
		}
		at := random.Intn(len(b)+3) - 1
		if random.Intn(2) > 0 {
			at = 0
		}
		want := read(b, at)
		if got := told(varint.Uint(b, at)); got != want {
			t.Fatalf("Uint(%v, %d) = %v, not %v", b, at, got, want)
		}
		sign := signed{int64(want.v / 2), want.next, want.errno}
		if want.v%2 == 1 {
			sign.v = -sign.v - 1
		}
		if got := toldInt(varint.Int(b, at)); got != sign {
			t.Fatalf("Int(%v, %d) = %v, not %v", b, at, got, sign)
		}
	}
}

func TestIntRefuses(t *testing.T) {
	for _, c := range []struct {
		b    []byte
		at   int
		want api.Errno
	}{
		{nil, 0, api.ErrTorn}, {[]byte{129}, 0, api.ErrTorn}, {[]byte{1}, 1, api.ErrTorn}, {[]byte{129, 0}, 0, api.ErrCorrupt},
		{[]byte{255, 255, 255, 255, 255, 255, 255, 255, 255, 2}, 0, api.ErrCorrupt},
		{[]byte{255, 255, 255, 255, 255, 255, 255, 255, 255, 255}, 0, api.ErrCorrupt},
		{[]byte{1}, 2, api.ErrRange},
	} {
		if got := toldInt(varint.Int(c.b, c.at)); got != (signed{0, 0, c.want}) {
			t.Errorf("Int(%v, %d) = %v, not %d", c.b, c.at, got, c.want)
		}
	}
}

func TestBytes(t *testing.T) {
	huge := varint.AppendUint(nil, math.MaxUint64)
	for _, c := range []struct {
		b        []byte
		at, most int
		want     string
		next     int
		errno    api.Errno
	}{
		{[]byte{2, 65, 66}, 0, 9, "AB", 3, api.OK},
		{[]byte{2, 65, 66}, 0, 2, "AB", 3, api.OK},
		{[]byte{2, 65, 66}, 0, math.MaxInt, "AB", 3, api.OK},
		{[]byte{2, 65, 66, 67}, 0, 9, "AB", 3, api.OK},
		{[]byte{9, 2, 65, 66, 67}, 1, 9, "AB", 4, api.OK},
		{[]byte{0}, 0, 0, "", 1, api.OK},
		{[]byte{0, 65}, 0, 9, "", 1, api.OK},
		{[]byte{1, 0}, 0, 1, "\x00", 2, api.OK},

		{[]byte{2, 65, 66}, 0, 1, "", 0, api.ErrLong},
		{[]byte{2, 65, 66}, 0, 0, "", 0, api.ErrLong},
		{[]byte{0}, 0, -1, "", 0, api.ErrLong},
		{[]byte{0, 65}, 0, math.MinInt, "", 0, api.ErrLong},
		{[]byte{2, 65, 66}, 0, -1, "", 0, api.ErrLong},
		// ErrLong is named ahead of the bytes that are missing.
		{[]byte{9, 65, 66}, 0, 8, "", 0, api.ErrLong},
		{[]byte{9}, 0, 8, "", 0, api.ErrLong},
		{huge, 0, math.MaxInt, "", 0, api.ErrLong},
		{huge, 0, -1, "", 0, api.ErrLong},
		{varint.AppendUint(nil, 1<<63), 0, math.MaxInt, "", 0, api.ErrLong},
		{varint.AppendUint(nil, 1<<32), 0, 0, "", 0, api.ErrLong},

		{[]byte{9, 65, 66}, 0, 9, "", 0, api.ErrTorn},
		{[]byte{2, 65}, 0, 9, "", 0, api.ErrTorn},
		{[]byte{1}, 0, 1, "", 0, api.ErrTorn},
		{[]byte{7, 7, 3, 65, 66}, 2, 9, "", 0, api.ErrTorn},
		{varint.AppendUint(nil, math.MaxInt64), 0, math.MaxInt, "", 0, api.ErrTorn},
		{varint.AppendUint(nil, math.MaxInt64-9), 0, math.MaxInt, "", 0, api.ErrTorn},
		{varint.AppendUint(nil, 1<<32), 0, math.MaxInt, "", 0, api.ErrTorn},

		// The errors of Uint are named ahead of the others.
		{nil, 0, 9, "", 0, api.ErrTorn},
		{nil, 0, -1, "", 0, api.ErrTorn},
		{[]byte{128}, 0, -1, "", 0, api.ErrTorn},
		{[]byte{130, 0, 65, 66}, 0, 9, "", 0, api.ErrCorrupt},
		{[]byte{130, 0, 65, 66}, 0, 1, "", 0, api.ErrCorrupt},
		{append(bytes.Repeat([]byte{255}, 9), 2), 0, -1, "", 0, api.ErrCorrupt},
	} {
		x, next, errno := varint.Bytes(c.b, c.at, c.most)
		if string(x) != c.want || next != c.next || errno != c.errno {
			t.Errorf("Bytes(%v, %d, %d) = %v %d %d, not %v %d %d", c.b, c.at, c.most, x, next, errno, []byte(c.want), c.next, c.errno)
		}
	}
}

// What was appended is read back, wherever it stands and whatever follows (P4.4).
func TestReadBack(t *testing.T) {
	for i, v := range some(3000) {
		for _, b := range prefixes() {
			at := len(b)
			x := bytes.Repeat([]byte{byte(v)}, i%300)
			one := varint.AppendUint(b, v)
			two := varint.AppendInt(one, int64(v))
			three := varint.AppendBytes(two, x)
			all := varint.AppendUint(three, 128)
			if got := told(varint.Uint(all, at)); got != (answer{v, len(one), api.OK}) {
				t.Fatalf("%d reads back as %v", v, got)
			}
			if got := toldInt(varint.Int(all, len(one))); got != (signed{int64(v), len(two), api.OK}) {
				t.Fatalf("%d reads back as %v", int64(v), got)
			}
			if got, next, errno := varint.Bytes(all, len(two), len(x)); !bytes.Equal(got, x) || next != len(three) || errno != api.OK {
				t.Fatalf("%v reads back as %v %d %d", x, got, next, errno)
			}
			for cut := at; cut < len(one); cut++ {
				if got := told(varint.Uint(all[:cut], at)); got != (answer{0, 0, api.ErrTorn}) {
					t.Fatalf("%v reads as %v", all[at:cut], got)
				}
			}
			for cut := len(two); cut < len(three); cut++ {
				if got, next, errno := varint.Bytes(all[:cut], len(two), len(x)); len(got) > 0 || next != 0 || errno != api.ErrTorn {
					t.Fatalf("%v reads as %v %d %d", all[len(two):cut], got, next, errno)
				}
			}
		}
	}
}

// Whatever is read is written as it stood: no other bytes are read as the same number (P4.4).
func TestOneFormEach(t *testing.T) {
	check := func(b []byte) {
		v, next, errno := varint.Uint(b, 0)
		if errno == api.OK && !slices.Equal(varint.AppendUint(nil, v), b[:next]) {
			t.Fatalf("%v is read as %d, whose form is another one", b[:next], v)
		}
		sign, next, errno := varint.Int(b, 0)
		if errno == api.OK && !slices.Equal(varint.AppendInt(nil, sign), b[:next]) {
			t.Fatalf("%v is read as %d with sign, whose form is another one", b[:next], sign)
		}
	}
	for i := range 1 << 16 {
		check([]byte{byte(i >> 8), byte(i)})
	}
	for _, one := range letters() {
		for _, two := range letters() {
			for _, three := range letters() {
				check([]byte{one, two, three})
				check(append(bytes.Repeat([]byte{255}, 7), one, two, three))
				check(append(bytes.Repeat([]byte{128}, 8), one, two, three))
			}
		}
	}
}
