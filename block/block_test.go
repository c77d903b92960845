package block_test

import (
	"bytes"
	"encoding/binary"
	"math/rand"
	"slices"
	"strings"
	"testing"

	"usance/api"
	"usance/block"
)

// pair is a key and its value as texts, which can be held against each other.
type pair struct{ key, value string }

func asPairs(list []pair) []api.Pair {
	var pairs []api.Pair
	for _, p := range list {
		pairs = append(pairs, api.Pair{Key: []byte(p.key), Value: []byte(p.value)})
	}
	return pairs
}

func asTexts(pairs []api.Pair) []pair {
	var list []pair
	for _, p := range pairs {
		list = append(list, pair{string(p.Key), string(p.Value)})
	}
	return list
}

// formOf is the chapter's form, told another way: by the library's numbers, and the longest beginning that both keys have.
func formOf(list []pair) []byte {
	var b []byte
	ahead := ""
	for _, p := range list {
		shared := len(p.key)
		for !strings.HasPrefix(ahead, p.key[:shared]) {
			shared--
		}
		for _, n := range []int{shared, len(p.key) - shared, len(p.value)} {
			b = binary.AppendUvarint(b, uint64(n))
		}
		b = append(b, p.key[shared:]+p.value...)
		ahead = p.key
	}
	return b
}

// refusalOf is the chapter's sentence on what Build refuses.
func refusalOf(list []pair) api.Errno {
	long := func(p pair) bool { return len(p.key) > 200 || len(p.value) > 4096 }
	if len(list) > 4096 || slices.ContainsFunc(list, long) {
		return api.ErrLong
	}
	for i, p := range list {
		if p.key == "" || i > 0 && strings.Compare(list[i-1].key, p.key) >= 0 {
			return api.ErrKey
		}
	}
	return api.OK
}

// numbered are so many pairs in order, the keys of four bytes, the values of none to four.
func numbered(n int) []pair {
	var list []pair
	for i := range n {
		key := string(binary.BigEndian.AppendUint32(nil, uint32(i)))
		list = append(list, pair{key, key[i%5 : 4]})
	}
	return list
}

// row are the keys, each with no value.
func row(keys ...string) []pair {
	var list []pair
	for _, key := range keys {
		list = append(list, pair{key, ""})
	}
	return list
}

func TestForms(t *testing.T) {
	long := strings.Repeat("k", 199)
	for i, c := range []struct {
		list []pair
		want string
	}{
		{nil, ""},
		{[]pair{{"ab", "x"}, {"ac", ""}}, "\x00\x02\x01abx\x01\x01\x00c"},
		{[]pair{{"ab", "x"}, {"ac", ""}, {"b", "yy"}}, "\x00\x02\x01abx\x01\x01\x00c\x00\x01\x02byy"},
		{[]pair{{"\x00", ""}}, "\x00\x01\x00\x00"},
		{[]pair{{"\x00", ""}, {"\x00\x00", ""}, {"\x00\x00\x00", "\x00"}}, "\x00\x01\x00\x00\x01\x01\x00\x00\x02\x01\x01\x00\x00"},
		// A key that begins the next one is shared whole, and no byte behind it is.
		{[]pair{{"a", ""}, {"ab", ""}, {"abcd", ""}, {"b", ""}}, "\x00\x01\x00a\x01\x01\x00b\x02\x02\x00cd\x00\x01\x00b"},
		// Bytes that are the same again behind one that isn't are told.
		{[]pair{{"abc", ""}, {"acc", ""}, {"bcc", ""}}, "\x00\x03\x00abc\x01\x02\x00cc\x00\x03\x00bcc"},
		// What is shared is shared with the one ahead, not with another one.
		{[]pair{{"aaa", ""}, {"aab", ""}, {"b", ""}, {"baa", ""}}, "\x00\x03\x00aaa\x02\x01\x00b\x00\x01\x00b\x01\x02\x00aa"},
		// Bytes are numbers from 0 to 255: 128 is above 127.
		{[]pair{{"\x7f", ""}, {"\x80", ""}, {"\xff", ""}, {"\xff\x00", ""}}, "\x00\x01\x00\x7f\x00\x01\x00\x80\x00\x01\x00\xff\x01\x01\x00\x00"},
		// Of 128 and more a number has two bytes.
		{[]pair{{long[:127], long[:127]}}, "\x00\x7f\x7f" + long[:127] + long[:127]},
		{[]pair{{long[:128], long[:128]}}, "\x00\x80\x01\x80\x01" + long[:128] + long[:128]},
		{[]pair{{long[:128], ""}, {long[:129], ""}}, "\x00\x80\x01\x00" + long[:128] + "\x80\x01\x01\x00k"},
		{[]pair{{long, ""}, {long + "l", "v"}}, "\x00\xc7\x01\x00" + long + "\xc7\x01\x01\x01lv"},
		{[]pair{{long + "k", strings.Repeat("v", 4096)}}, "\x00\xc8\x01\x80\x20" + long + "k" + strings.Repeat("v", 4096)},
	} {
		b, errno := block.Build(asPairs(c.list))
		if string(b) != c.want || errno != api.OK {
			t.Errorf("case %d: Build(%.200q) = %.200q %d, not %.200q", i, c.list, b, errno, c.want)
		}
		if got := formOf(c.list); string(got) != c.want {
			t.Errorf("case %d: the form of %.200q is told as %.200q, not %.200q", i, c.list, got, c.want)
		}
	}
	if b, errno := block.Build([]api.Pair{}); len(b) > 0 || errno != api.OK {
		t.Errorf("Build of no pairs = %q %d", b, errno)
	}
}

func TestBuildRefuses(t *testing.T) {
	long, wide := strings.Repeat("k", 201), strings.Repeat("v", 4097)
	most := numbered(4097)
	falling := append(numbered(4096), pair{"\x00", ""})
	for i, c := range []struct {
		list []pair
		want api.Errno
	}{
		{numbered(4096), api.OK},
		{most, api.ErrLong},
		{numbered(4098), api.ErrLong},
		{numbered(9000), api.ErrLong},
		{row(long[:200]), api.OK},
		{row(long), api.ErrLong},
		{row("a", "b", long), api.ErrLong},
		{row("k", long), api.ErrLong},
		{row(strings.Repeat("k", 300)), api.ErrLong},
		{[]pair{{"a", wide[:4096]}}, api.OK},
		{[]pair{{"a", wide}}, api.ErrLong},
		{[]pair{{"a", ""}, {"b", wide}}, api.ErrLong},
		{[]pair{{"a", strings.Repeat("v", 1<<20)}}, api.ErrLong},

		{row(""), api.ErrKey},
		{[]pair{{"", "v"}}, api.ErrKey},
		{row("", "a"), api.ErrKey},
		{row("a", ""), api.ErrKey},
		{row("", ""), api.ErrKey},
		{row("a", "a"), api.ErrKey},
		{[]pair{{"a", "v"}, {"a", "w"}}, api.ErrKey},
		{row("b", "a"), api.ErrKey},
		{row("ab", "a"), api.ErrKey},
		{row("a", "c", "b"), api.ErrKey},
		{row("a", "c", "b", "d"), api.ErrKey},
		{row("a", "b", "a"), api.ErrKey},
		{row("b", "ab"), api.ErrKey},
		{row("\x80", "\x7f"), api.ErrKey},
		{row("a\xff", "a\x00"), api.ErrKey},
		{row("a", "\x00a"), api.ErrKey},

		// What is too long is named ahead of the keys, wherever it stands.
		{row("", long), api.ErrLong},
		{row("b", "a", long), api.ErrLong},
		{row(long, "a"), api.ErrLong},
		{[]pair{{"", wide}}, api.ErrLong},
		{[]pair{{"b", ""}, {"a", ""}, {"c", wide}}, api.ErrLong},
		{falling, api.ErrLong},
		{row(make([]string, 4097)...), api.ErrLong},
		{row(make([]string, 4096)...), api.ErrKey},
		{falling[1:], api.ErrKey},
	} {
		b, errno := block.Build(asPairs(c.list))
		if errno != c.want || errno != api.OK && len(b) > 0 {
			t.Errorf("case %d: Build of %d pairs %.200q = %.200q %d, not %d", i, len(c.list), c.list, b, errno, c.want)
		}
		if got := refusalOf(c.list); got != c.want {
			t.Errorf("case %d: the refusal is told as %d, not %d", i, got, c.want)
		}
	}
}

// check holds Build against the chapter's words, and Read and Find of what it built (P9.4).
func check(t *testing.T, list []pair) {
	t.Helper()
	var want []byte
	refusal := refusalOf(list)
	if refusal == api.OK {
		want = formOf(list)
	}
	b, errno := block.Build(asPairs(list))
	if !bytes.Equal(b, want) || errno != refusal {
		t.Fatalf("Build(%.200q) = %.200q %d, not %.200q %d", list, b, errno, want, refusal)
	}
	if errno != api.OK {
		return
	}
	if back, errno := block.Read(b); !slices.Equal(asTexts(back), list) || errno != api.OK {
		t.Fatalf("%.200q is read back as %.200q %d", list, asTexts(back), errno)
	}
}

// All lists of up to four of a few keys, in any order.
func TestShortLists(t *testing.T) {
	keys := []string{"", "a", "aa", "ab", "aab", "b", "ba", "\x00", "a\x00", "\xff", "a\xff"}
	for a := range keys {
		check(t, row(keys[a]))
		for b := range keys {
			check(t, row(keys[a], keys[b]))
			for c := range keys {
				check(t, row(keys[a], keys[b], keys[c]))
				for d := range keys {
					check(t, row(keys[a], keys[b], keys[c], keys[d]))
				}
			}
		}
	}
}

// Keys of all lengths, of which all lengths are shared, and values of all lengths.
func TestAllLengths(t *testing.T) {
	text := strings.Repeat("long", 51)
	for n := range 202 {
		for shared := range 202 {
			if shared < n {
				check(t, []pair{{text[:shared] + "\x01", "v"}, {text[:n], "w"}})
				check(t, []pair{{text[:max(shared, 1)], "v"}, {text[:n], "w"}})
			}
		}
	}
	for n := range 4098 {
		check(t, []pair{{"a", strings.Repeat("v", n)}, {"ab", strings.Repeat("w", n%7)}})
	}
}

func TestManyPairs(t *testing.T) {
	for _, n := range []int{1, 2, 127, 128, 129, 255, 256, 257, 1000, 4095, 4096, 4097} {
		check(t, numbered(n))
	}
	var list []pair
	for i := range 4096 {
		key := strings.Repeat("\xfe", 198) + string([]byte{byte(i >> 8), byte(i)})
		list = append(list, pair{key, strings.Repeat(key[:8], 512)})
	}
	check(t, list)
}

// Lists by chance, the same ones each time; most in order.
func TestLists(t *testing.T) {
	random := rand.New(rand.NewSource(9))
	for range 20000 {
		var list []pair
		for range random.Intn(12) {
			list = append(list, pair{text(random, 6), text(random, 9)})
		}
		if random.Intn(5) > 0 {
			slices.SortFunc(list, func(x, y pair) int { return strings.Compare(x.key, y.key) })
			if random.Intn(5) > 0 {
				list = slices.CompactFunc(list, func(x, y pair) bool { return x.key == y.key })
				list = slices.DeleteFunc(list, func(p pair) bool { return p.key == "" })
			}
		}
		check(t, list)
	}
}

// text is one of fewer than so many bytes, of few kinds, so that beginnings are shared.
func text(random *rand.Rand, most int) string {
	b := make([]byte, random.Intn(most))
	for i := range b {
		b[i] = "\x00ab\x80\xff"[random.Intn(5)]
	}
	return string(b)
}
