package frame_test

import (
	"bytes"
	"encoding/binary"
	"hash/crc32"
	"math/rand"
	"slices"
	"strings"
	"testing"

	"usance/api"
	"usance/frame"
)

// some are so many bytes of all kinds, the same ones at each call.
func some(n int) []byte {
	b := make([]byte, n)
	rand.New(rand.NewSource(int64(n) + 6)).Read(b)
	return b
}

// framed is the chapter's frame, told another way: by the library's words and sums.
func framed(payload []byte) []byte {
	b := binary.LittleEndian.AppendUint32(nil, uint32(len(payload)))
	sum := crc32.ChecksumIEEE(append(bytes.Clone(b), payload...))
	return append(binary.LittleEndian.AppendUint32(b, sum), payload...)
}

// summed is the chapter's sentence on Sum, word by word.
func summed(b []byte) uint32 {
	c := uint64(4294967295)
	for _, x := range b {
		c ^= uint64(x)
		for step := 1; step <= 8; step++ {
			if c%2 == 1 {
				c = c/2 ^ 3988292384
			} else {
				c = c / 2
			}
		}
	}
	return uint32(c ^ 4294967295)
}

func TestSums(t *testing.T) {
	for _, c := range []struct {
		b    string
		want uint32
	}{
		{"", 0},
		{"\x00", 0xD202EF8D},
		{"\xff", 0xFF000000},
		{"a", 0xE8B7BE43},
		{"abc", 0x352441C2},
		{"123456789", 0xCBF43926},
		{"\x00\x00\x00\x00", 0x2144DF1C},
		{"\xff\xff\xff\xff", 0xFFFFFFFF},
		{strings.Repeat("\x00", 32), 0x190A55AD},
		{strings.Repeat("\xff", 32), 0xFF6CAB0B},
		{"The quick brown fox jumps over the lazy dog", 0x414FA339},
	} {
		if got := frame.Sum([]byte(c.b)); got != c.want {
			t.Errorf("Sum(%q) = %#x, not %#x", c.b, got, c.want)
		}
		if got := summed([]byte(c.b)); got != c.want {
			t.Errorf("the sum of %q is told as %#x, not %#x", c.b, got, c.want)
		}
	}
	if got := frame.Sum(nil); got != 0 {
		t.Errorf("Sum(nil) = %#x", got)
	}
}

func TestSumByItsWordsAndTheLibrary(t *testing.T) {
	check := func(b []byte) {
		t.Helper()
		got := frame.Sum(b)
		if got != summed(b) || got != crc32.ChecksumIEEE(b) {
			t.Fatalf("Sum of %d bytes %.20v = %#x, not %#x", len(b), b, got, summed(b))
		}
	}
	for i := range 1 << 16 {
		check([]byte{byte(i)})
		check([]byte{byte(i >> 8), byte(i)})
	}
	for n := range 600 {
		check(some(n))
		check(make([]byte, n))
		check(bytes.Repeat([]byte{255}, n))
	}
	check(some(api.MaxFrame))
	check(some(api.MaxFrame + 9))
}

func TestFrames(t *testing.T) {
	for _, c := range []struct{ payload, want []byte }{
		{nil, []byte{0, 0, 0, 0, 28, 223, 68, 33}},
		{[]byte{}, []byte{0, 0, 0, 0, 28, 223, 68, 33}},
		{[]byte{0}, []byte{1, 0, 0, 0, 173, 222, 66, 251, 0}},
		{[]byte("a"), []byte{1, 0, 0, 0, 99, 143, 247, 193, 97}},
		{[]byte("one"), []byte{3, 0, 0, 0, 0, 154, 169, 41, 111, 110, 101}},
	} {
		if got, errno := frame.Put(c.payload); !bytes.Equal(got, c.want) || errno != api.OK {
			t.Errorf("Put(%v) = %v %d, not %v", c.payload, got, errno, c.want)
		}
		if got := framed(c.payload); !bytes.Equal(got, c.want) {
			t.Errorf("the frame of %v is told as %v, not %v", c.payload, got, c.want)
		}
	}
}

// The length's bytes have their lowest first, and the sum is of these bytes as they stand (P6.2).
func TestFramesOfAllLengths(t *testing.T) {
	lengths := []int{65535, 65536, 65537, 1 << 20, api.MaxFrame - 1, api.MaxFrame}
	for n := range 600 {
		lengths = append(lengths, n)
	}
	for _, n := range lengths {
		payload := some(n)
		b, errno := frame.Put(payload)
		if errno != api.OK || !bytes.Equal(b, framed(payload)) {
			t.Fatalf("Put of %d bytes = %.20v %d, not %.20v", n, b, errno, framed(payload))
		}
		if sum := summed(slices.Concat(b[:4], payload)); binary.LittleEndian.Uint32(b[4:]) != sum {
			t.Fatalf("Put of %d bytes has the sum %v, not %#x", n, b[4:8], sum)
		}
	}
}

func TestPutRefuses(t *testing.T) {
	for _, n := range []int{api.MaxFrame + 1, api.MaxFrame + 2, 2 * api.MaxFrame, 1 << 25} {
		if b, errno := frame.Put(make([]byte, n)); len(b) > 0 || errno != api.ErrLong {
			t.Errorf("Put of %d bytes = %d bytes %d, not ErrLong", n, len(b), errno)
		}
	}
}
