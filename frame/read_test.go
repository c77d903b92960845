package frame_test

import (
	"bytes"
	"encoding/binary"
	"hash/crc32"
	"math"
	"math/rand"
	"slices"
	"testing"

	"usance/api"
	"usance/frame"
)

// headed are bytes behind a length and a sum that need not be theirs.
func headed(length, sum uint32, rest []byte) []byte {
	b := binary.LittleEndian.AppendUint32(nil, length)
	return append(binary.LittleEndian.AppendUint32(b, sum), rest...)
}

// sealed are bytes behind any length, with the sum of both.
func sealed(length uint32, rest []byte) []byte {
	head := binary.LittleEndian.AppendUint32(nil, length)
	return headed(length, crc32.ChecksumIEEE(append(head, rest...)), rest)
}

// read is the chapter's sentence on Read, told another way: it looks for the payload whose frame stands there.
func read(b []byte, at int) ([]byte, int, api.Errno) {
	if at < 0 || at > len(b) {
		return nil, 0, api.ErrRange
	}
	if at == len(b) {
		return nil, 0, api.ErrNone
	}
	if len(b)-at < 8 {
		return nil, 0, api.ErrTorn
	}
	n := int64(binary.LittleEndian.Uint32(b[at:]))
	if n > 2097152 {
		return nil, 0, api.ErrCorrupt
	}
	if int64(len(b)-at-8) < n {
		return nil, 0, api.ErrTorn
	}
	end := at + 8 + int(n)
	if payload := b[at+8 : end]; bytes.Equal(framed(payload), b[at:end]) {
		return payload, end, api.OK
	}
	return nil, 0, api.ErrCorrupt
}

// all is the chapter's sentence on All, by read.
func all(b []byte) ([][]byte, int, api.Errno) {
	var list [][]byte
	at := 0
	for {
		payload, next, errno := read(b, at)
		if errno == api.ErrNone {
			return list, at, api.OK
		}
		if errno != api.OK {
			return list, at, errno
		}
		list, at = append(list, payload), next
	}
}

func TestRead(t *testing.T) {
	one, none := framed([]byte("one")), framed(nil)
	two := slices.Concat(one, none, framed([]byte("two")))
	most := some(api.MaxFrame)
	long := make([]byte, api.MaxFrame+1)
	turned := bytes.Clone(one)
	turned[10] ^= 1
	for i, c := range []struct {
		b     []byte
		at    int
		want  string
		next  int
		errno api.Errno
	}{
		{one, 0, "one", 11, api.OK},
		{none, 0, "", 8, api.OK},
		{two, 0, "one", 11, api.OK},
		{two, 11, "", 19, api.OK},
		{two, 19, "two", 30, api.OK},
		{append([]byte{9}, two...), 1, "one", 12, api.OK},
		{framed(most), 0, string(most), api.MaxFrame + 8, api.OK},
		{append(framed(most), 1), 0, string(most), api.MaxFrame + 8, api.OK},

		{nil, 0, "", 0, api.ErrNone},
		{[]byte{}, 0, "", 0, api.ErrNone},
		{one, 11, "", 0, api.ErrNone},
		{two, 30, "", 0, api.ErrNone},
		{[]byte{1}, 1, "", 0, api.ErrNone},

		{[]byte{0}, 0, "", 0, api.ErrTorn},
		{none[:7], 0, "", 0, api.ErrTorn},
		{one, 4, "", 0, api.ErrTorn},
		{one, 10, "", 0, api.ErrTorn},
		{one[:8], 0, "", 0, api.ErrTorn},
		{one[:10], 0, "", 0, api.ErrTorn},
		{framed(most)[:api.MaxFrame+7], 0, "", 0, api.ErrTorn},
		{sealed(1, nil), 0, "", 0, api.ErrTorn},
		{sealed(api.MaxFrame, nil), 0, "", 0, api.ErrTorn},
		// The missing bytes are asked ahead of the sum.
		{headed(1, 0, nil), 0, "", 0, api.ErrTorn},
		{headed(api.MaxFrame, 0, long[:api.MaxFrame-1]), 0, "", 0, api.ErrTorn},
		// Fewer than eight bytes are asked ahead of the length, whatever it says.
		{[]byte{255, 255, 255, 255, 0, 0, 0}, 0, "", 0, api.ErrTorn},

		// The length is asked ahead of the missing bytes, and of the sum.
		{headed(api.MaxFrame+1, 0, nil), 0, "", 0, api.ErrCorrupt},
		{headed(1<<31, 0, nil), 0, "", 0, api.ErrCorrupt},
		{headed(1<<31-1, 0, nil), 0, "", 0, api.ErrCorrupt},
		{headed(math.MaxUint32, 0, nil), 0, "", 0, api.ErrCorrupt},
		{headed(math.MaxUint32-7, 0, nil), 0, "", 0, api.ErrCorrupt},
		{sealed(api.MaxFrame+1, nil), 0, "", 0, api.ErrCorrupt},
		{sealed(api.MaxFrame+1, long), 0, "", 0, api.ErrCorrupt},
		{sealed(math.MaxUint32, long), 0, "", 0, api.ErrCorrupt},

		{turned, 0, "", 0, api.ErrCorrupt},
		{headed(0, 0, nil), 0, "", 0, api.ErrCorrupt},
		// The sum is of the length too, and its lowest byte comes first.
		{headed(3, crc32.ChecksumIEEE([]byte("one")), []byte("one")), 0, "", 0, api.ErrCorrupt},
		{[]byte{0, 0, 0, 0, 33, 68, 223, 28}, 0, "", 0, api.ErrCorrupt},
		{[]byte{0, 0, 0, 1, 0, 0, 0, 0, 1}, 0, "", 0, api.ErrCorrupt},
		{headed(api.MaxFrame, 0, long), 0, "", 0, api.ErrCorrupt},
	} {
		got, next, errno := frame.Read(c.b, c.at)
		if string(got) != c.want || next != c.next || errno != c.errno {
			t.Errorf("case %d: Read(%.20v, %d) = %.20v %d %d, not %.20q %d %d", i, c.b, c.at, got, next, errno, c.want, c.next, c.errno)
		}
	}
}

func TestNoPlace(t *testing.T) {
	for _, b := range [][]byte{nil, {}, {1}, framed(nil), framed([]byte("one"))} {
		n := len(b)
		// A place in the spare room is none.
		wide := slices.Concat(b, framed(nil), framed(nil))[:n]
		for _, at := range []int{-1, -8, n + 1, n + 8, -n - 1, math.MinInt, math.MinInt + 1, math.MaxInt, math.MaxInt - 7, 1 << 32, -1 << 32} {
			if got, next, errno := frame.Read(wide, at); len(got) > 0 || next != 0 || errno != api.ErrRange {
				t.Errorf("Read(%v, %d) = %v %d %d, not ErrRange", b, at, got, next, errno)
			}
		}
	}
}

// Spare room behind the bytes is not read: they end where they end.
func TestSpareRoomIsNotRead(t *testing.T) {
	two := slices.Concat(framed([]byte("one")), framed([]byte("two")))
	for n := range len(two) {
		got, next, errno := frame.Read(two[:n], 0)
		if want, place, refusal := read(bytes.Clone(two[:n]), 0); !bytes.Equal(got, want) || next != place || errno != refusal {
			t.Errorf("Read of %d bytes = %v %d %d, not %v %d %d", n, got, next, errno, want, place, refusal)
		}
		list, end, errno := frame.All(two[:n])
		if want, place, refusal := all(bytes.Clone(two[:n])); !slices.EqualFunc(list, want, bytes.Equal) || end != place || errno != refusal {
			t.Errorf("All of %d bytes = %q %d %d, not %q %d %d", n, list, end, errno, want, place, refusal)
		}
	}
}

func TestAll(t *testing.T) {
	one, none, two := framed([]byte("one")), framed(nil), framed([]byte("two"))
	turned := bytes.Clone(two)
	turned[8] ^= 128
	for i, c := range []struct {
		b     []byte
		want  []string
		end   int
		errno api.Errno
	}{
		{nil, nil, 0, api.OK},
		{[]byte{}, nil, 0, api.OK},
		{one, []string{"one"}, 11, api.OK},
		{none, []string{""}, 8, api.OK},
		{slices.Concat(none, none, none), []string{"", "", ""}, 24, api.OK},
		{slices.Concat(one, none, two), []string{"one", "", "two"}, 30, api.OK},

		{append(bytes.Clone(one), 7), []string{"one"}, 11, api.ErrTorn},
		{append(bytes.Clone(one), 0, 0, 0, 0, 28, 223, 68), []string{"one"}, 11, api.ErrTorn},
		{[]byte{7}, nil, 0, api.ErrTorn},
		{one[:10], nil, 0, api.ErrTorn},
		{slices.Concat(one, two[:10]), []string{"one"}, 11, api.ErrTorn},
		{slices.Concat(one, none, headed(api.MaxFrame+1, 0, nil)), []string{"one", ""}, 19, api.ErrCorrupt},
		{slices.Concat(one, make([]byte, 8)), []string{"one"}, 11, api.ErrCorrupt},
		{make([]byte, 8), nil, 0, api.ErrCorrupt},
		// What stands behind a fault isn't looked for.
		{slices.Concat(one, turned, one), []string{"one"}, 11, api.ErrCorrupt},
		{slices.Concat(turned, one, one), nil, 0, api.ErrCorrupt},
		{slices.Concat(one, turned, one[:3]), []string{"one"}, 11, api.ErrCorrupt},
	} {
		got, end, errno := frame.All(c.b)
		same := slices.EqualFunc(got, c.want, func(x []byte, y string) bool { return string(x) == y })
		if !same || end != c.end || errno != c.errno {
			t.Errorf("case %d: All(%v) = %q %d %d, not %q %d %d", i, c.b, got, end, errno, c.want, c.end, c.errno)
		}
	}
}

func TestAllOfMany(t *testing.T) {
	var b []byte
	const n = 20000
	for i := range n {
		b = append(b, framed(binary.LittleEndian.AppendUint32(nil, uint32(i))[:i%5])...)
	}
	got, end, errno := frame.All(b)
	if len(got) != n || end != len(b) || errno != api.OK {
		t.Fatalf("All of %d frames = %d payloads, %d of %d bytes, %d", n, len(got), end, len(b), errno)
	}
	for i, payload := range got {
		if want := binary.LittleEndian.AppendUint32(nil, uint32(i))[:i%5]; !bytes.Equal(payload, want) {
			t.Fatalf("payload %d is %v, not %v", i, payload, want)
		}
	}
}

// Read and All are held against the chapter's words, over frames that are turned, cut or joined as it comes.
func TestReadByItsWords(t *testing.T) {
	random := rand.New(rand.NewSource(66))
	met := map[api.Errno]int{}
	few := func(n int) []byte {
		b := make([]byte, random.Intn(n))
		random.Read(b)
		return b
	}
	for range 100000 {
		var b []byte
		for range random.Intn(4) {
			b = append(b, framed(few(12))...)
		}
		if random.Intn(3) == 0 {
			b = append(b, few(20)...)
		}
		if len(b) > 0 && random.Intn(2) == 0 {
			b[random.Intn(len(b))] ^= 1 << random.Intn(8)
		}
		if random.Intn(3) == 0 {
			b = b[:random.Intn(len(b)+1)]
		}
		at := random.Intn(len(b)+3) - 1
		if random.Intn(2) > 0 {
			at = 0
		}
		want, place, refusal := read(b, at)
		met[refusal]++
		if got, next, errno := frame.Read(b, at); !bytes.Equal(got, want) || next != place || errno != refusal {
			t.Fatalf("Read(%v, %d) = %v %d %d, not %v %d %d", b, at, got, next, errno, want, place, refusal)
		}
		list, place, refusal := all(b)
		if got, end, errno := frame.All(b); !slices.EqualFunc(got, list, bytes.Equal) || end != place || errno != refusal {
			t.Fatalf("All(%v) = %v %d %d, not %v %d %d", b, got, end, errno, list, place, refusal)
		}
	}
	for _, errno := range []api.Errno{api.OK, api.ErrRange, api.ErrNone, api.ErrTorn, api.ErrCorrupt} {
		if met[errno] < 1000 {
			t.Errorf("error %d was met but %d times", errno, met[errno])
		}
	}
}

// What was put is read back wherever it stands; cut anywhere or turned in any bit it isn't (P6.2, P6.3).
func TestReadBack(t *testing.T) {
	for _, n := range []int{0, 1, 2, 3, 7, 8, 9, 40, 255, 256, 257} {
		payload := some(n)
		b, _ := frame.Put(payload)
		wide := slices.Concat([]byte{5, 6}, b, []byte{7})
		if got, next, errno := frame.Read(wide, 2); !bytes.Equal(got, payload) || next != 2+len(b) || errno != api.OK {
			t.Fatalf("%v is read back as %v %d %d", payload, got, next, errno)
		}
		for cut := 1; cut < len(b); cut++ {
			if got, next, errno := frame.Read(b[:cut], 0); len(got) > 0 || next != 0 || errno != api.ErrTorn {
				t.Fatalf("%v is read as %v %d %d", b[:cut], got, next, errno)
			}
		}
		for bit := range 8 * len(b) {
			turned := bytes.Clone(b)
			turned[bit/8] ^= 1 << (bit % 8)
			if got, next, errno := frame.Read(turned, 0); len(got) > 0 || next != 0 || errno != api.ErrTorn && errno != api.ErrCorrupt {
				t.Fatalf("%v with the bit %d turned is read as %v %d %d", b, bit, got, next, errno)
			}
		}
	}
}
