package block_test

import (
	"bytes"
	"math"
	"math/big"
	"math/rand"
	"slices"
	"strings"
	"testing"

	"usance/api"
	"usance/block"
	"usance/varint"
)

// read is the chapter's sentence on Read, told another way: by texts and numbers without bound, one question behind the other.
func read(b []byte) ([]pair, api.Errno) {
	var list []pair
	ahead := ""
	for at := 0; at < len(b); {
		var n [3]*big.Int
		for i := range n {
			v, next, errno := varint.Uint(b, at)
			if errno != api.OK {
				return nil, errno
			}
			n[i], at = new(big.Int).SetUint64(v), next
		}
		above := func(limit int, of ...*big.Int) bool {
			sum := new(big.Int)
			for _, x := range of {
				sum.Add(sum, x)
			}
			return sum.Cmp(big.NewInt(int64(limit))) > 0
		}
		if above(len(ahead), n[0]) {
			return nil, api.ErrCorrupt
		}
		if above(200, n[0], n[1]) || above(4096, n[2]) {
			return nil, api.ErrLong
		}
		if above(len(b)-at, n[1], n[2]) {
			return nil, api.ErrTorn
		}
		shared, end := int(n[0].Int64()), at+int(n[1].Int64())
		key := ahead[:shared] + string(b[at:end])
		if key == "" || len(list) > 0 && key <= ahead {
			return nil, api.ErrCorrupt
		}
		if len(key) > shared && strings.HasPrefix(ahead, key[:shared+1]) {
			return nil, api.ErrCorrupt
		}
		if len(list) == 4096 {
			return nil, api.ErrLong
		}
		at = end + int(n[2].Int64())
		list = append(list, pair{key, string(b[end:at])})
		ahead = key
	}
	return list, api.OK
}

// pieces are the bytes of numbers and texts, one behind the other.
func pieces(list ...any) []byte {
	var b []byte
	for _, x := range list {
		switch x := x.(type) {
		case int:
			b = varint.AppendUint(b, uint64(x))
		case uint64:
			b = varint.AppendUint(b, x)
		case string:
			b = append(b, x...)
		case []byte:
			b = append(b, x...)
		}
	}
	return b
}

func TestRead(t *testing.T) {
	k, v := strings.Repeat("k", 200), strings.Repeat("v", 4096)
	for i, c := range []struct {
		b    []byte
		want []pair
	}{
		{nil, nil},
		{[]byte{}, nil},
		{pieces(0, 2, 1, "abx", 1, 1, 0, "c"), []pair{{"ab", "x"}, {"ac", ""}}},
		{pieces(0, 2, 1, "abx", 1, 1, 0, "c", 0, 1, 2, "byy"), []pair{{"ab", "x"}, {"ac", ""}, {"b", "yy"}}},
		{pieces(0, 1, 0, "\x00"), []pair{{"\x00", ""}}},
		{pieces(0, 1, 0, "a", 1, 1, 0, "\x00"), []pair{{"a", ""}, {"a\x00", ""}}},
		{pieces(0, 1, 0, "\x7f", 0, 1, 0, "\x80"), []pair{{"\x7f", ""}, {"\x80", ""}}},
		{pieces(0, 200, 0, k), []pair{{k, ""}}},
		{pieces(0, 199, 0, k[1:], 199, 1, 0, "k"), []pair{{k[1:], ""}, {k, ""}}},
		{pieces(0, 1, 0, "k", 1, 199, 0, k[1:]), []pair{{"k", ""}, {k, ""}}},
		{pieces(0, 1, 4096, "a", v), []pair{{"a", v}}},
		{pieces(0, 1, 4096, "a", v, 0, 1, 4096, "b", v), []pair{{"a", v}, {"b", v}}},
	} {
		got, errno := block.Read(c.b)
		if !slices.Equal(asTexts(got), c.want) || errno != api.OK {
			t.Errorf("case %d: Read(%.60q) = %.60q %d, not %.60q", i, c.b, asTexts(got), errno, c.want)
		}
	}
}

func TestReadRefuses(t *testing.T) {
	k, v := strings.Repeat("k", 201), strings.Repeat("v", 4097)
	const most = uint64(math.MaxUint64)
	ab := pieces(0, 2, 1, "abx")
	full := formOf(numbered(4096))
	for i, c := range []struct {
		b    []byte
		want api.Errno
	}{
		// The numbers: they end too early, or are told by a longer form than need be.
		{pieces(0), api.ErrTorn},
		{pieces(0, 1), api.ErrTorn},
		{pieces(0, 1, "\x80"), api.ErrTorn},
		{pieces("\x80"), api.ErrTorn},
		{pieces("\x80\x00", 1, 0, "a"), api.ErrCorrupt},
		{pieces(0, "\x81\x00", 0, "a"), api.ErrCorrupt},
		{pieces(0, 1, "\x80\x00", "a"), api.ErrCorrupt},
		{pieces("\xff\xff\xff\xff\xff\xff\xff\xff\xff\x02"), api.ErrCorrupt},
		// They are named ahead of the pair's other errors.
		{pieces(9), api.ErrTorn},
		{pieces(9, 1), api.ErrTorn},
		{pieces(9, 201), api.ErrTorn},
		{pieces(0, 201), api.ErrTorn},
		{pieces(0, 201, "\x80"), api.ErrTorn},
		{pieces(0, 201, "\x80\x00", k), api.ErrCorrupt},
		{pieces(0, "\x80\x00", 4097, v), api.ErrCorrupt},
		{pieces(0, 0), api.ErrTorn},
		{append(bytes.Clone(full), 9), api.ErrTorn},
		{append(bytes.Clone(full), 0, 1, 128, 0), api.ErrCorrupt},

		// More is shared than there is.
		{pieces(1, 0, 0), api.ErrCorrupt},
		{pieces(1, 1, 0, "a"), api.ErrCorrupt},
		{pieces(most, 1, 0, "a"), api.ErrCorrupt},
		{pieces(uint64(1)<<63, 1, 0, "a"), api.ErrCorrupt},
		{pieces(uint64(1)<<32, 1, 0, "a"), api.ErrCorrupt},
		{pieces(ab, 3, 1, 0, "c"), api.ErrCorrupt},
		{pieces(ab, most, 1, 0, "c"), api.ErrCorrupt},
		{pieces(ab, 1, 1, 0, "c", 3, 1, 0, "d"), api.ErrCorrupt},
		// What is shared is shared with the one ahead, not with a longer one ahead of it.
		{pieces(ab, 0, 1, 0, "b", 2, 1, 0, "d"), api.ErrCorrupt},
		// It is named ahead of the lengths and of the missing bytes.
		{pieces(1, 201, 4097), api.ErrCorrupt},
		{pieces(1, 200, 0, k[:200]), api.ErrCorrupt},
		{pieces(201, 0, 0), api.ErrCorrupt},
		{pieces(1, 5, 5), api.ErrCorrupt},
		{pieces(most, most, most), api.ErrCorrupt},
		{pieces(full, 5, 0, 0), api.ErrCorrupt},

		// Too long a key, or value.
		{pieces(0, 201, 0, k), api.ErrLong},
		{pieces(0, most, 0), api.ErrLong},
		{pieces(0, uint64(1)<<32, 0, "a"), api.ErrLong},
		{pieces(0, uint64(1)<<63, 0, "a"), api.ErrLong},
		{pieces(0, uint64(1)<<63|1, 0, "a"), api.ErrLong},
		{pieces(0, uint64(1)<<32|1, 0, "a"), api.ErrLong},
		{pieces(0, 200, 0, k[:200], 200, 1, 0, "k"), api.ErrLong},
		{pieces(0, 199, 0, k[:199], 199, 2, 0, "kk"), api.ErrLong},
		{pieces(ab, 1, 200, 0, k[:200]), api.ErrLong},
		{pieces(ab, 2, 199, 0, k[:199]), api.ErrLong},
		// The shared bytes and more, added up, could wrap round.
		{pieces(ab, 1, most, 0, "c"), api.ErrLong},
		{pieces(ab, 2, most, 0, "c"), api.ErrLong},
		{pieces(ab, 2, most-1, 0, "c"), api.ErrLong},
		{pieces(ab, 1, uint64(math.MaxInt64), 0, "c"), api.ErrLong},
		{pieces(0, 1, 4097, "a", v), api.ErrLong},
		{pieces(0, 1, most, "a"), api.ErrLong},
		{pieces(0, 1, uint64(1)<<63, "a"), api.ErrLong},
		{pieces(0, 1, uint64(1)<<32, "a"), api.ErrLong},
		{pieces(0, 2, most, "ab"), api.ErrLong},
		{pieces(0, 2, most-1, "ab"), api.ErrLong},
		{pieces(ab, 1, 1, 4097, "c", v), api.ErrLong},
		// They are named ahead of the missing bytes, and of a key that can't be.
		{pieces(0, 201, 0), api.ErrLong},
		{pieces(0, 0, 4097), api.ErrLong},
		{pieces(0, 1, 4097, "a"), api.ErrLong},
		{pieces(ab, 0, 1, 4097, "a", v), api.ErrLong},
		{pieces(ab, 0, 201, 0, "aa", k), api.ErrLong},

		// Bytes are missing.
		{pieces(0, 1, 0), api.ErrTorn},
		{pieces(0, 2, 0, "a"), api.ErrTorn},
		{pieces(0, 1, 1, "a"), api.ErrTorn},
		{pieces(0, 1, 2, "ax"), api.ErrTorn},
		{pieces(0, 200, 4096), api.ErrTorn},
		{pieces(0, 200, 4096, k[:200], v[:4095]), api.ErrTorn},
		{pieces(ab, 1, 1, 0), api.ErrTorn},
		{pieces(ab, 1, 1, 3, "cxx"), api.ErrTorn},
		// They are named ahead of a key that can't be.
		{pieces(0, 0, 1), api.ErrTorn},
		{pieces(ab, 0, 1, 1, "a"), api.ErrTorn},
		{pieces(ab, 2, 0, 1), api.ErrTorn},
		{pieces(ab, 0, 3, 0, "ab"), api.ErrTorn},
		{pieces(full, 0, 1, 0), api.ErrTorn},

		// The key is empty, or not above the one ahead.
		{pieces(0, 0, 0), api.ErrCorrupt},
		{pieces(0, 0, 1, "x"), api.ErrCorrupt},
		{pieces(ab, 0, 0, 0), api.ErrCorrupt},
		{pieces(ab, 2, 0, 0), api.ErrCorrupt},
		{pieces(ab, 1, 0, 0), api.ErrCorrupt},
		{pieces(ab, 1, 1, 0, "a"), api.ErrCorrupt},
		{pieces(ab, 0, 1, 0, "A"), api.ErrCorrupt},
		{pieces(ab, 0, 3, 0, "Abc"), api.ErrCorrupt},
		{pieces(ab, 1, 1, 0, "\x00"), api.ErrCorrupt},
		{pieces(0, 1, 0, "\x80", 0, 1, 0, "\x7f"), api.ErrCorrupt},
		{pieces(0, 1, 0, "b", 0, 1, 0, "a"), api.ErrCorrupt},
		// It shares more than is told, one byte or all.
		{pieces(0, 1, 0, "a", 0, 2, 0, "ab"), api.ErrCorrupt},
		{pieces(ab, 0, 3, 0, "abc"), api.ErrCorrupt},
		{pieces(ab, 1, 2, 0, "bc"), api.ErrCorrupt},
		{pieces(ab, 0, 2, 0, "ac"), api.ErrCorrupt},
		{pieces(full, 0, 4, 0, "\x00\x00\x10\x00"), api.ErrCorrupt},

		// One pair is too many; its own errors are named ahead of that.
		{pieces(full, 2, 2, 0, "\x10\x00"), api.ErrLong},
		{pieces(full, 2, 2, 0, "\x10\x00", 9), api.ErrLong},
		{pieces(full, 2, 2, 0, "\x10\x00", 9, 0, 0), api.ErrLong},
		{formOf(numbered(4098)), api.ErrLong},
		{formOf(numbered(9000)), api.ErrLong},

		// The first pair that has a fault tells, whatever stands behind.
		{pieces(0, 0, 0, 0, 201, 0), api.ErrCorrupt},
		{pieces(0, 201, 0, 9), api.ErrLong},
		{pieces(ab, 0, 1, 0, "a", 0), api.ErrCorrupt},
		{append([]byte{0, 0, 0}, full...), api.ErrCorrupt},
	} {
		if got, errno := block.Read(c.b); len(got) > 0 || errno != c.want {
			t.Errorf("case %d: Read(%.60q) = %.60q %d, not %d", i, c.b, asTexts(got), errno, c.want)
		}
		if _, errno := read(c.b); errno != c.want {
			t.Errorf("case %d: the error of %.60q is told as %d, not %d", i, c.b, errno, c.want)
		}
		for _, key := range []string{"", "ab", "a", "\x00\x00\x00\x00", "zz"} {
			if got, ok, errno := block.Find(c.b, []byte(key)); len(got) > 0 || ok || errno != c.want {
				t.Errorf("case %d: Find(%.60q, %q) = %.60q %v %d, not %d", i, c.b, key, got, ok, errno, c.want)
			}
		}
	}
}

func TestFind(t *testing.T) {
	list := []pair{{"\x00", "nought"}, {"a", ""}, {"ab", "x"}, {"abc", "yy"}, {"b", "zzz"}, {"ba", "\x00"}, {strings.Repeat("k", 200), strings.Repeat("v", 4096)}}
	b := formOf(list)
	for _, p := range list {
		if got, ok, errno := block.Find(b, []byte(p.key)); string(got) != p.value || !ok || errno != api.OK {
			t.Errorf("Find of %q = %q %v %d, not %q", p.key, got, ok, errno, p.value)
		}
	}
	for _, key := range []string{"", "\x00\x00", "A", "aa", "ac", "abb", "abcd", "bb", "c", "x", "zzz", "nought", "\xff", strings.Repeat("k", 199), strings.Repeat("k", 201), strings.Repeat("k", 1000)} {
		if got, ok, errno := block.Find(b, []byte(key)); len(got) > 0 || ok || errno != api.OK {
			t.Errorf("Find of %q = %q %v %d, but there is none", key, got, ok, errno)
		}
	}
	for _, b := range [][]byte{nil, {}} {
		for _, key := range [][]byte{nil, {}, {0}} {
			if got, ok, errno := block.Find(b, key); len(got) > 0 || ok || errno != api.OK {
				t.Errorf("Find(%v, %v) = %q %v %d, but there is none", b, key, got, ok, errno)
			}
		}
	}
	if got, ok, errno := block.Find(b, nil); len(got) > 0 || ok || errno != api.OK {
		t.Errorf("Find of nil = %q %v %d, but there is none", got, ok, errno)
	}
}

func TestFindAmongMany(t *testing.T) {
	list := numbered(4096)
	b := formOf(list)
	for i := 0; i < len(list); i += 37 {
		p := list[i]
		if got, ok, errno := block.Find(b, []byte(p.key)); string(got) != p.value || !ok || errno != api.OK {
			t.Fatalf("Find of %q = %q %v %d, not %q", p.key, got, ok, errno, p.value)
		}
		if got, ok, errno := block.Find(b, []byte(p.key[:3])); len(got) > 0 || ok || errno != api.OK {
			t.Fatalf("Find of %q = %q %v %d, but there is none", p.key[:3], got, ok, errno)
		}
	}
}

// A fault behind the place of the key is told too, whether the key is there or not (P9.3).
func TestFaultsBehindTheKey(t *testing.T) {
	b := formOf([]pair{{"b", "x"}, {"d", "y"}})
	for _, c := range []struct {
		rest []byte
		want api.Errno
	}{
		{[]byte{0}, api.ErrTorn},
		{pieces(0, 1, 1, "e"), api.ErrTorn},
		{pieces(0, 201, 0), api.ErrLong},
		{pieces(2, 1, 0, "e"), api.ErrCorrupt},
		{pieces(0, 1, 0, "d"), api.ErrCorrupt},
		{pieces(0, 1, 0, "c"), api.ErrCorrupt},
		{pieces(1, 0, 0), api.ErrCorrupt},
		{pieces(0, 2, 0, "de"), api.ErrCorrupt},
		{pieces(0, 1, 0, "e", 9), api.ErrTorn},
	} {
		whole := append(bytes.Clone(b), c.rest...)
		for _, key := range []string{"", "a", "b", "c", "d", "de", "e", "z"} {
			if got, ok, errno := block.Find(whole, []byte(key)); len(got) > 0 || ok || errno != c.want {
				t.Errorf("Find(%q, %q) = %q %v %d, not %d", whole, key, got, ok, errno, c.want)
			}
		}
	}
}

// checkRead holds Read and Find against the chapter's words, and Build of what was read (P9.4).
func checkRead(t *testing.T, b []byte, keys []string) api.Errno {
	t.Helper()
	want, refusal := read(b)
	got, errno := block.Read(b)
	if !slices.Equal(asTexts(got), want) || errno != refusal {
		t.Fatalf("Read(%q) = %q %d, not %q %d", b, asTexts(got), errno, want, refusal)
	}
	for _, p := range want {
		keys = append(keys[:len(keys):len(keys)], p.key)
	}
	for _, key := range keys {
		value := ""
		i := slices.IndexFunc(want, func(p pair) bool { return p.key == key })
		if i >= 0 {
			value = want[i].value
		}
		if got, ok, errno := block.Find(b, []byte(key)); string(got) != value || ok != (i >= 0) || errno != refusal {
			t.Fatalf("Find(%q, %q) = %q %v %d, not %q %v %d", b, key, got, ok, errno, value, i >= 0, refusal)
		}
	}
	if refusal != api.OK {
		return refusal
	}
	if back, errno := block.Build(got); !bytes.Equal(back, b) || errno != api.OK {
		t.Fatalf("%q is read as %q, whose form is %q %d", b, want, back, errno)
	}
	return api.OK
}

// Every short list of a few bytes is as the words tell it.
func TestAllShortBytes(t *testing.T) {
	letters := []byte{0, 1, 2, 3, 128, 200}
	met := map[api.Errno]int{}
	var walk func(b []byte)
	walk = func(b []byte) {
		met[checkRead(t, b, []string{"", "\x01", "\x01\x02"})]++
		if len(b) == 7 {
			return
		}
		for _, letter := range letters {
			walk(append(b[:len(b):len(b)], letter))
		}
	}
	walk(nil)
	for _, errno := range []api.Errno{api.OK, api.ErrTorn, api.ErrCorrupt, api.ErrLong} {
		if met[errno] < 30 {
			t.Errorf("%d was met %d times", errno, met[errno])
		}
	}
}

// Blocks that are cut, turned or joined as it comes, the same ones each time.
func TestSpoiltBlocks(t *testing.T) {
	random := rand.New(rand.NewSource(99))
	met := map[api.Errno]int{}
	for range 200000 {
		var keys []string
		for range random.Intn(6) {
			keys = append(keys, "a"+text(random, 5))
		}
		slices.Sort(keys)
		var list []pair
		for _, key := range slices.Compact(keys) {
			list = append(list, pair{key, text(random, 4)})
		}
		b := formOf(list)
		switch random.Intn(5) {
		case 0:
			b = b[:random.Intn(len(b)+1)]
		case 1:
			b = append(b, formOf([]pair{{"a" + text(random, 5), ""}})...)
		case 2, 3:
			for range min(len(b), 1+random.Intn(2)) {
				b[random.Intn(len(b))] += byte(1 + random.Intn(3) - 2*random.Intn(2))
			}
		}
		met[checkRead(t, b, []string{"a", "a" + text(random, 5), text(random, 3)})]++
	}
	for _, errno := range []api.Errno{api.OK, api.ErrTorn, api.ErrCorrupt, api.ErrLong} {
		if met[errno] < 300 {
			t.Errorf("%d was met %d times", errno, met[errno])
		}
	}
}

// A number of pairs near the bound, with each end there is.
func TestReadManyPairs(t *testing.T) {
	for _, n := range []int{4094, 4095, 4096, 4097} {
		b := formOf(numbered(n))
		for _, rest := range [][]byte{nil, {0}, {0, 1, 0}, pieces(0, 1, 0, "\x01"), pieces(0, 1, 0, "\x00"), pieces(0, 201, 0), pieces(0, 1, 0, "\x01", 0, 1, 0, "\x02"), pieces(0, 1, 0, "\x01", 0)} {
			whole := append(bytes.Clone(b), rest...)
			want, refusal := read(whole)
			if got, errno := block.Read(whole); !slices.Equal(asTexts(got), want) || errno != refusal {
				t.Errorf("Read of %d pairs and %q = %d pairs %d, not %d %d", n, rest, len(got), errno, len(want), refusal)
			}
		}
	}
}
