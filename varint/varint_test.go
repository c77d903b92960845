package varint_test

import (
	"bytes"
	"encoding/binary"
	"math"
	"math/big"
	"math/rand"
	"slices"
	"testing"

	"usance/api"
	"usance/varint"
)

// edges are numbers at which a form grows by a byte, and those beside them.
func edges() []uint64 {
	list := []uint64{0, 1, 2, 63, 64, 65, 300, math.MaxUint64, math.MaxUint64 - 1, math.MaxInt64}
	for bit := 1; bit < 64; bit++ {
		v := uint64(1) << bit
		list = append(list, v-1, v, v+1)
	}
	return list
}

// some are numbers of all lengths.
func some(n int) []uint64 {
	random := rand.New(rand.NewSource(4))
	list := edges()
	for range n {
		list = append(list, random.Uint64()>>random.Intn(64))
	}
	return list
}

// prefixes are what may stand ahead of what is appended.
func prefixes() [][]byte {
	return [][]byte{nil, {}, {7}, {128}, {255, 255}, []byte("ahead of it")}
}

func TestForms(t *testing.T) {
	for _, c := range []struct {
		v    uint64
		want []byte
	}{
		{0, []byte{0}},
		{1, []byte{1}},
		{127, []byte{127}},
		{128, []byte{128, 1}},
		{129, []byte{129, 1}},
		{255, []byte{255, 1}},
		{256, []byte{128, 2}},
		{300, []byte{172, 2}},
		{16383, []byte{255, 127}},
		{16384, []byte{128, 128, 1}},
		{1<<63 - 1, []byte{255, 255, 255, 255, 255, 255, 255, 255, 127}},
		{1 << 63, []byte{128, 128, 128, 128, 128, 128, 128, 128, 128, 1}},
		{math.MaxUint64, []byte{255, 255, 255, 255, 255, 255, 255, 255, 255, 1}},
	} {
		if got := varint.AppendUint(nil, c.v); !bytes.Equal(got, c.want) {
			t.Errorf("AppendUint(nil, %d) = %v, not %v", c.v, got, c.want)
		}
	}
}

func TestFormsWithSign(t *testing.T) {
	for _, c := range []struct {
		v    int64
		want []byte
	}{
		{0, []byte{0}},
		{-1, []byte{1}},
		{1, []byte{2}},
		{-2, []byte{3}},
		{2, []byte{4}},
		{63, []byte{126}},
		{-64, []byte{127}},
		{64, []byte{128, 1}},
		{-65, []byte{129, 1}},
		{math.MaxInt64, []byte{254, 255, 255, 255, 255, 255, 255, 255, 255, 1}},
		{math.MinInt64, []byte{255, 255, 255, 255, 255, 255, 255, 255, 255, 1}},
		{math.MinInt64 + 1, []byte{253, 255, 255, 255, 255, 255, 255, 255, 255, 1}},
	} {
		if got := varint.AppendInt(nil, c.v); !bytes.Equal(got, c.want) {
			t.Errorf("AppendInt(nil, %d) = %v, not %v", c.v, got, c.want)
		}
	}
}

func TestFormsOfBytes(t *testing.T) {
	for _, c := range []struct{ x, want []byte }{
		{nil, []byte{0}},
		{[]byte{}, []byte{0}},
		{[]byte("AB"), []byte{2, 65, 66}},
		{[]byte{0}, []byte{1, 0}},
		{[]byte{255, 128}, []byte{2, 255, 128}},
		{bytes.Repeat([]byte{9}, 127), append([]byte{127}, bytes.Repeat([]byte{9}, 127)...)},
		{bytes.Repeat([]byte{9}, 128), append([]byte{128, 1}, bytes.Repeat([]byte{9}, 128)...)},
		{bytes.Repeat([]byte{9}, 300), append([]byte{172, 2}, bytes.Repeat([]byte{9}, 300)...)},
	} {
		for _, b := range prefixes() {
			want := append(bytes.Clone(b), c.want...)
			if got := varint.AppendBytes(b, c.x); !bytes.Equal(got, want) {
				t.Errorf("AppendBytes(%v, %v) = %v, not %v", b, c.x, got, want)
			}
		}
	}
}

// The library's own forms are the same ones.
func TestFormsByTheLibrary(t *testing.T) {
	for _, v := range some(20000) {
		for _, b := range prefixes() {
			if got, want := varint.AppendUint(b, v), binary.AppendUvarint(bytes.Clone(b), v); !bytes.Equal(got, want) {
				t.Fatalf("AppendUint(%v, %d) = %v, not %v", b, v, got, want)
			}
			if got, want := varint.AppendInt(b, int64(v)), binary.AppendVarint(bytes.Clone(b), int64(v)); !bytes.Equal(got, want) {
				t.Fatalf("AppendInt(%v, %d) = %v, not %v", b, int64(v), got, want)
			}
		}
	}
}

type answer struct {
	v     uint64
	next  int
	errno api.Errno
}

func told(v uint64, next int, errno api.Errno) answer {
	return answer{v, next, errno}
}

type signed struct {
	v     int64
	next  int
	errno api.Errno
}

func toldInt(v int64, next int, errno api.Errno) signed {
	return signed{v, next, errno}
}

// read is the chapter's sentence on Uint, told another way: by where the form ends, and in big numbers.
func read(b []byte, at int) answer {
	if at < 0 || at > len(b) {
		return answer{0, 0, api.ErrRange}
	}
	rest := b[at:]
	last := slices.IndexFunc(rest, func(c byte) bool { return c < 128 })
	if len(rest) >= 10 && (last < 0 || last >= 9) && rest[9] > 1 {
		return answer{0, 0, api.ErrCorrupt}
	}
	if last < 0 {
		return answer{0, 0, api.ErrTorn}
	}
	if last > 0 && rest[last] == 0 {
		return answer{0, 0, api.ErrCorrupt}
	}
	sum := new(big.Int)
	for i := last; i >= 0; i-- {
		sum.Mul(sum, big.NewInt(128)).Add(sum, big.NewInt(int64(rest[i]&127)))
	}
	if !sum.IsUint64() {
		return answer{0, 0, api.ErrCorrupt}
	}
	return answer{sum.Uint64(), at + last + 1, api.OK}
}
