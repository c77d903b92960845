package keys_test

import (
	"bytes"
	"encoding/binary"
	"math/rand"
	"slices"
	"strings"
	"testing"

	"usance/api"
	"usance/keys"
)

// joined are pieces one behind the other.
func joined(pieces ...[]byte) []byte {
	return slices.Concat(pieces...)
}

// texts is a form of n texts, each of so many letters.
func texts(n, letters int) []byte {
	return form(same(text(strings.Repeat("x", letters)), n))
}

func TestBrokenBytes(t *testing.T) {
	one := form(row(num(1)))
	a := form(row(text("a")))
	for _, c := range []struct {
		b    []byte
		want api.Errno
	}{
		{[]byte{1}, api.ErrTorn},
		{[]byte{1, 0}, api.ErrTorn},
		{one[:8], api.ErrTorn},
		{[]byte{2}, api.ErrTorn},
		{[]byte{2, 97}, api.ErrTorn},
		{[]byte{2, 0}, api.ErrTorn},
		{[]byte{2, 97, 0}, api.ErrTorn},
		{[]byte{2, 0, 255}, api.ErrTorn},
		{[]byte{2, 0, 255, 0}, api.ErrTorn},
		{[]byte{2, 255, 1}, api.ErrTorn},
		{joined(a, []byte{2}), api.ErrTorn},
		{joined(one, []byte{1}), api.ErrTorn},
		{joined(one, a, one[:5]), api.ErrTorn},

		{[]byte{0}, api.ErrCorrupt},
		{[]byte{3}, api.ErrCorrupt},
		{[]byte{255}, api.ErrCorrupt},
		{[]byte{129, 0}, api.ErrCorrupt},
		{[]byte{2, 0, 0}, api.ErrCorrupt},
		{[]byte{2, 0, 2}, api.ErrCorrupt},
		{[]byte{2, 0, 7}, api.ErrCorrupt},
		{[]byte{2, 0, 254}, api.ErrCorrupt},
		{[]byte{2, 97, 0, 0, 1}, api.ErrCorrupt},
		{[]byte{2, 0, 255, 0, 97, 0, 1}, api.ErrCorrupt},
		{joined(a, []byte{0}), api.ErrCorrupt},
		{joined(one, []byte{3}), api.ErrCorrupt},
		{joined(one, one, []byte{0, 1}), api.ErrCorrupt},

		// What is met first is told.
		{joined([]byte{3}, a, []byte{1}), api.ErrCorrupt},
		{[]byte{2, 0, 7, 2}, api.ErrCorrupt},
		{joined(one, []byte{2, 0, 7, 1, 0}), api.ErrCorrupt},

		{nil, api.ErrKey},
		{[]byte{}, api.ErrKey},
	} {
		if got, errno := keys.Decode(c.b); len(got) > 0 || errno != c.want {
			t.Errorf("Decode(%v) = %s %d, not %d", c.b, told(got), errno, c.want)
		}
	}
}

// What the whole may not be is told behind all faults of its bytes, in the order of P5.1 (P5.2).
func TestWholes(t *testing.T) {
	noughts := form(row(text(strings.Repeat("\x00", api.MaxText))))
	for _, c := range []struct {
		b    []byte
		want api.Errno
	}{
		{texts(1, 64), api.OK},
		{texts(1, 65), api.ErrLong},
		{texts(1, 66), api.ErrLong},
		{texts(1, 1<<20), api.ErrLong},
		{noughts, api.OK},
		{form(row(text(strings.Repeat("\x00", 65)))), api.ErrLong},
		{form(row(num(3), text("a"), text(strings.Repeat("x", 65)))), api.ErrLong},
		{form(row(text(strings.Repeat("x", 65)), num(3), text("a"))), api.ErrLong},
		{texts(8, 0), api.OK},
		{texts(9, 0), api.ErrLong},
		{texts(10, 0), api.ErrLong},
		{texts(1<<17, 1), api.ErrLong},
		{form(same(num(1), 8)), api.OK},
		{form(same(num(1), 9)), api.ErrLong},
		{form(append(same(num(1), 7), text(strings.Repeat("x", 64)))), api.OK},
		{form(append(same(num(1), 8), text("x"))), api.ErrLong},
		// MaxKey bytes, and one more.
		{joined(texts(2, 64), texts(1, 63)), api.OK},
		{texts(3, 64), api.ErrKey},
		{joined(noughts, texts(1, 63), []byte{2, 0, 1}), api.OK},
		{joined(noughts, texts(1, 64), []byte{2, 0, 1}), api.ErrKey},
		{texts(8, 64), api.ErrKey},
		{texts(9, 64), api.ErrLong},
		{joined(texts(3, 64), texts(1, 65)), api.ErrLong},

		// A fault behind what is too much is told all the same.
		{joined(texts(9, 0), []byte{3}), api.ErrCorrupt},
		{joined(texts(9, 0), []byte{1}), api.ErrTorn},
		{joined(texts(9, 0), []byte{2, 0, 9}), api.ErrCorrupt},
		{joined(texts(1<<16, 1), []byte{2, 0}), api.ErrTorn},
		{joined(texts(1<<16, 1), []byte{0}), api.ErrCorrupt},
		{joined(texts(1, 65), []byte{0}), api.ErrCorrupt},
		{joined(texts(1, 65), []byte{1, 1}), api.ErrTorn},
		{joined([]byte{2}, bytes.Repeat([]byte{97}, 65)), api.ErrTorn},
		{joined([]byte{2}, bytes.Repeat([]byte{97}, 65), []byte{0}), api.ErrTorn},
		{joined([]byte{2}, bytes.Repeat([]byte{97}, 65), []byte{0, 0}), api.ErrCorrupt},
		{joined([]byte{2}, bytes.Repeat([]byte{97}, 1<<20), []byte{0, 2}), api.ErrCorrupt},
		{joined(texts(3, 64), []byte{0}), api.ErrCorrupt},
		{joined(texts(3, 64), []byte{2}), api.ErrTorn},
		{bytes.Repeat([]byte{1}, 9*9+8), api.ErrTorn},
	} {
		got, errno := keys.Decode(c.b)
		if errno != c.want || (errno == api.OK) != (len(got) > 0) {
			t.Errorf("Decode(%v ..), %d bytes, = %s %d, not %d", c.b[:min(len(c.b), 99)], len(c.b), told(got), errno, c.want)
		}
	}
}

// read is the chapter's sentence on Decode, told another way: by where a text's first 0 stands that isn't one of its own.
func read(b []byte) ([]api.Part, api.Errno) {
	parts := []api.Part{}
	for rest := b; len(rest) > 0; {
		switch {
		case rest[0] != 1 && rest[0] != 2:
			return nil, api.ErrCorrupt
		case rest[0] == 1 && len(rest) < 9:
			return nil, api.ErrTorn
		case rest[0] == 1:
			parts = append(parts, num(int64(binary.BigEndian.Uint64(rest[1:9])+1<<63)))
			rest = rest[9:]
			continue
		}
		rest = rest[1:]
		end := bytes.IndexByte(bytes.ReplaceAll(rest, []byte{0, 255}, []byte{7, 7}), 0)
		if end < 0 || end+1 == len(rest) {
			return nil, api.ErrTorn
		}
		if rest[end+1] != 1 {
			return nil, api.ErrCorrupt
		}
		parts = append(parts, text(string(bytes.ReplaceAll(rest[:end], []byte{0, 255}, []byte{0}))))
		rest = rest[end+2:]
	}
	return whole(b, parts)
}

// whole is what the chapter asks of all parts of the bytes.
func whole(b []byte, parts []api.Part) ([]api.Part, api.Errno) {
	longest := 0
	for _, part := range parts {
		longest = max(longest, len(part.Text))
	}
	switch {
	case len(parts) > 8, longest > 64:
		return nil, api.ErrLong
	case len(parts) == 0, len(b) > 200:
		return nil, api.ErrKey
	}
	return parts, api.OK
}

// mangled is a form with some of its bytes turned, taken away or put in, or its end cut off.
func mangled(random *rand.Rand, b []byte) []byte {
	b = bytes.Clone(b)
	letters := []byte{0, 1, 2, 3, 97, 128, 254, 255}
	for range random.Intn(3) {
		at := random.Intn(len(b) + 1)
		letter := letters[random.Intn(len(letters))]
		switch {
		case random.Intn(4) == 0:
			b = slices.Insert(b, at, letter)
		case at == len(b):
		case random.Intn(3) == 0:
			b = slices.Delete(b, at, at+1)
		case random.Intn(4) == 0:
			b = b[:at]
		default:
			b[at] = letter
		}
	}
	return b
}

func TestDecodeByItsWords(t *testing.T) {
	random := rand.New(rand.NewSource(55))
	met := map[api.Errno]int{}
	for range 300000 {
		parts := randomRow(random)
		if random.Intn(8) == 0 {
			parts = append(parts, slices.Repeat(parts, 3)...)
		}
		b := mangled(random, form(parts))
		want, errno := read(b)
		met[errno]++
		got, gotErrno := keys.Decode(b)
		if !slices.Equal(got, want) || gotErrno != errno {
			t.Fatalf("Decode(%v) = %s %d, not %s %d", b, told(got), gotErrno, told(want), errno)
		}
		// One form each: what is read is told by the same bytes.
		if errno == api.OK {
			if x, e := keys.Encode(got); !bytes.Equal(x, b) || e != api.OK {
				t.Fatalf("Encode(Decode(%v)) = %v %d", b, x, e)
			}
		}
	}
	for _, errno := range []api.Errno{api.OK, api.ErrTorn, api.ErrCorrupt, api.ErrLong, api.ErrKey} {
		if met[errno] < 1000 {
			t.Errorf("the error %d was met but %d times", errno, met[errno])
		}
	}
}

// Wherever a form is cut, but for between its parts, it is torn.
func TestCuts(t *testing.T) {
	for _, parts := range rising() {
		b := form(parts)
		between := len(form(parts[:1]))
		for cut := range b {
			want := api.ErrTorn
			switch {
			case cut == 0:
				want = api.ErrKey
			case cut == between, len(parts) == 3 && cut == len(form(parts[:2])):
				want = api.OK
			}
			if got, errno := keys.Decode(b[:cut]); errno != want || (errno == api.OK) != (len(got) > 0) {
				t.Errorf("Decode(%v) = %s %d, not %d", b[:cut], told(got), errno, want)
			}
		}
	}
}
