package table_test

import (
	"bytes"
	"fmt"
	"math"
	"math/rand"
	"slices"
	"strings"
	"testing"

	"usance/api"
	"usance/block"
	"usance/frame"
	"usance/table"
	"usance/varint"
	"usance/vdisk"
)

// bytesOf is the file that the list is written to.
func bytesOf(t *testing.T, l []version, block int) []byte {
	t.Helper()
	d := vdisk.New(never)
	is(t, "Write", table.Write(d, "t", asEntries(l), block), api.OK)
	b, errno := d.Read("t")
	is(t, "Read", errno, api.OK)
	return b
}

// openBytes opens a file of the bytes; nil if it can't be.
func openBytes(t *testing.T, b []byte) *table.Table {
	t.Helper()
	d, errno := vdisk.Of([]api.File{{Name: "t", Data: b}}, never)
	is(t, "Of", errno, api.OK)
	x, errno := table.Open(d, "t")
	if errno != api.OK && (errno != api.ErrCorrupt || x != nil) {
		t.Fatalf("Open: %d", errno)
	}
	return x
}

// fails counts the questions that a table answers ErrCorrupt; to the others it answers what the list has.
func fails(t *testing.T, x *table.Table, l []version) int {
	t.Helper()
	if x == nil {
		return 1
	}
	hasBounds(t, x, l)
	failed := 0
	for _, v := range append(list("\x001", "\xff1"), l...) {
		e, ok, errno := x.Get([]byte(v.key), v.seq)
		want, there := last(l, v.key, v.seq)
		if errno == api.ErrCorrupt {
			failed++
			there, want = false, version{}
		} else {
			is(t, "Get", errno, api.OK)
		}
		if ok != there || asVersion(e) != want {
			t.Fatalf("Get(%q, %d): %v, %v", v.key, v.seq, e, ok)
		}
		got, errno := versions(x, v.key, "c")
		wanted := within(l, v.key, "c")
		if errno == api.ErrCorrupt && len(got) <= len(wanted) {
			failed++
			wanted = wanted[:len(got)]
		} else {
			is(t, "Entries", errno, api.OK)
		}
		if !slices.Equal(got, wanted) {
			t.Fatalf("Entries(%q, c): %v, not %v", v.key, got, wanted)
		}
	}
	return failed
}

func faultyLists() [][]version {
	return [][]version{
		list("a1"),
		list("b5", "b3", "c4"),
		list("a3=x", "a2!", "a1", "b3!", "b1=yz", "c2"),
		{{key: "aa", seq: 1 << 40, value: "one"}, {key: "aa", seq: 300}, {key: "ab", seq: 1 << 20, dead: true}, {key: "b", seq: 128, value: strings.Repeat("v", 130)}},
	}
}

// Whatever single byte is turned, by one bit or several: what is answered is what was, or ErrCorrupt.
func TestTurned(t *testing.T) {
	for _, l := range faultyLists() {
		for block := 1; block <= len(l); block++ {
			b := bytesOf(t, l, block)
			is(t, "Entries whole", api.Errno(fails(t, openBytes(t, b), l)), 0)
			for i := range b {
				for _, turn := range []byte{1, 2, 4, 8, 16, 32, 64, 128, 3, 0x7f, 0xa5, 0xff} {
					b[i] ^= turn
					if fails(t, openBytes(t, b), l) == 0 {
						t.Fatalf("byte %d of %d turned, unseen", i, len(b))
					}
					b[i] ^= turn
				}
			}
		}
	}
}

// Wherever the file is cut, and with whatever behind it, opening tells that.
func TestCut(t *testing.T) {
	for _, l := range faultyLists() {
		for size := 1; size <= len(l); size++ {
			b := bytesOf(t, l, size)
			for n := range b {
				if openBytes(t, b[:n]) != nil {
					t.Fatalf("cut at %d of %d, unseen", n, len(b))
				}
			}
			for _, more := range [][]byte{{0}, []byte("more"), b} {
				if openBytes(t, append(bytes.Clone(b), more...)) != nil {
					t.Fatalf("%d bytes more, unseen", len(more))
				}
			}
		}
	}
}

// sane tells that a table of any bytes has entries that may be and in order, or ErrCorrupt, and that its answers don't speak against each other.
func sane(t *testing.T, b []byte) {
	t.Helper()
	x := openBytes(t, b)
	if x == nil {
		return
	}
	l, errno := versions(x, "", "")
	if errno != api.OK {
		is(t, "Entries", errno, api.ErrCorrupt)
	} else {
		hasBounds(t, x, l)
	}
	if len(l) > 0 {
		is(t, "Write what was read", table.Write(vdisk.New(never), "t", asEntries(l), 1), api.OK)
	}
	for _, v := range l {
		e, ok, errno := openBytes(t, b).Get([]byte(v.key), v.seq)
		if errno != api.OK {
			is(t, "Get", errno, api.ErrCorrupt)
		} else if asVersion(e) != v || !ok {
			t.Fatalf("Get(%q, %d): %v, %v", v.key, v.seq, e, ok)
		}
	}
}

// payloadsOf are those of a file's frames.
func payloadsOf(t *testing.T, b []byte) [][]byte {
	t.Helper()
	list, _, errno := frame.All(b)
	is(t, "All", errno, api.OK)
	return list
}

// framed are the frames of the payloads.
func framed(payloads ...[]byte) []byte {
	var b []byte
	for _, payload := range payloads {
		f, _ := frame.Put(payload)
		b = append(b, f...)
	}
	return b
}

// Bytes under right sums that nobody wrote so: nothing panics, all ends, and no entry is answered that may not be.
func TestBytesOfAnyKind(t *testing.T) {
	r := rand.New(rand.NewSource(10))
	for _, l := range faultyLists() {
		for size := 1; size <= len(l); size++ {
			payloads := payloadsOf(t, bytesOf(t, l, size))
			for i, payload := range payloads {
				for k := range payload {
					for _, value := range []byte{0, 1, 2, 3, 4, 5, 6, 7, 127, 128, 129, 255, payload[k] - 2, payload[k] - 1, payload[k] + 1, payload[k] + 2} {
						changed := slices.Clone(payloads)
						changed[i] = bytes.Clone(payload)
						changed[i][k] = value
						sane(t, framed(changed...))
					}
					changed := slices.Clone(payloads)
					changed[i] = payload[:k]
					sane(t, framed(changed...))
				}
				for range 50 {
					changed := slices.Clone(payloads)
					changed[i] = append(bytes.Clone(payload), payloads[r.Intn(len(payloads))]...)
					sane(t, framed(changed...))
					changed[i] = slices.Concat(payload[:r.Intn(len(payload))], payload[r.Intn(len(payload)):])
					sane(t, framed(changed...))
					changed[i] = payloads[r.Intn(len(payloads))]
					sane(t, framed(changed...))
					sane(t, framed(changed[:r.Intn(len(changed))]...))
				}
			}
		}
	}
}

// number is the form of a number.
func number(v uint64) string { return string(varint.AppendUint(nil, v)) }

// told is the form of a text: how long it is, and it.
func told(x string) string { return number(uint64(len(x))) + x }

// packed is what a file tells of a block, told another way: the keys and how many versions each has, and the versions, each with what it tells.
func packed(keys []api.Pair, versions ...string) []byte {
	b, _ := block.Build(keys)
	return []byte(told(string(b)) + strings.Join(versions, ""))
}

func key(key, value string) api.Pair { return api.Pair{Key: []byte(key), Value: []byte(value)} }

func keys(pairs ...api.Pair) []api.Pair { return pairs }

// v is a version, with twice its number and one more if it is dead.
func v(head uint64, value string) string { return number(head) + told(value) }

// row is a version that the index tells: twice the number of the block's first one, how many it has, how many bytes the frame.
func row(head, count uint64, size int) string { return v(head, number(count)+number(uint64(size))) }

// head is a file's first payload.
func head(frames uint64, greatest string) []byte { return []byte(number(frames) + told(greatest)) }

// The form, told another way: what Write makes, and what can't be though its sums are right.
func TestForm(t *testing.T) {
	one, two := key("a", number(1)), key("a", number(2))
	b := key("b", number(1))
	first := packed(keys(two), v(6, "x"), v(5, ""))
	second := packed(keys(b), v(2, ""))
	l := list("a3=x", "a2!", "b1")
	size := func(payload []byte) int { return len(framed(payload)) }
	index := packed(keys(one, b), row(6, 2, size(first)), row(2, 1, size(second)))
	if got, want := bytesOf(t, l, 2), framed(head(1, "b"), index, first, second); !bytes.Equal(got, want) {
		t.Fatalf("the file\n%q, not\n%q", got, want)
	}
	whole := func(what string, payloads ...[]byte) {
		t.Helper()
		if n := fails(t, openBytes(t, framed(payloads...)), l); n > 0 {
			t.Errorf("%s: %d questions fail", what, n)
		}
	}
	parts := [][]byte{packed(keys(one), row(6, 2, size(first))), packed(keys(b), row(2, 1, size(second)))}
	whole("an index of two frames", head(2, "b"), parts[0], parts[1], first, second)
	refused := func(what string, payloads ...[]byte) {
		t.Helper()
		if openBytes(t, framed(payloads...)) != nil {
			t.Errorf("%s: opened", what)
		}
	}
	refused("nothing")
	refused("an empty head", nil, index, first, second)
	refused("no greatest key", []byte(number(1)), index, first, second)
	refused("more than a head", append(head(1, "b"), 0), index, first, second)
	refused("a long greatest key", head(1, strings.Repeat("k", 201)), index, first, second)
	refused("no index", head(0, "b"))
	refused("an index of none", head(0, "b"), index, first, second)
	refused("a longer index", head(2, "b"), index)
	refused("no end of an index", head(math.MaxUint64, "b"), index)
	refused("an index out of order", head(2, "b"), parts[1], parts[0], second, first)
	refused("an index twice", head(2, "b"), parts[0], parts[0], first, first)
	refused("an empty frame of an index", head(1, "b"), nil)
	refused("an index without keys", head(1, "b"), packed(nil))
	for what, row := range map[string]string{
		"no count":       v(6, ""),
		"no size":        v(6, number(2)),
		"more":           v(6, number(2)+number(uint64(size(first)))+"\x00"),
		"count 0":        row(6, 0, size(first)),
		"a great count":  row(6, 1025, size(first)),
		"greatest count": row(6, math.MaxUint64, size(first)),
		"a long block":   row(6, 2, size(first)+1),
		"a short block":  row(6, 2, size(first)-1),
		"greatest size":  v(6, number(2)+number(math.MaxUint64)),
		"a dead row":     v(7, ""),
		"number 0":       row(0, 2, size(first)),
	} {
		refused(what, head(1, "a"), packed(keys(one), row), first)
	}
}

// Blocks that can't be, under right sums, which the index speaks of as if they could.
func TestFormOfBlocks(t *testing.T) {
	long := strings.Repeat("v", 4097)
	one, two := key("a", number(1)), key("a", number(2))
	// first stands for a3=x and a2!, ahead of a block with b1, which a Get of a doesn't ask.
	broken := func(what string, want api.Errno, first []byte) {
		t.Helper()
		second := packed(keys(key("b", number(1))), v(2, ""))
		index := packed(keys(one, key("b", number(1))), row(6, 2, len(framed(first))), row(2, 1, len(framed(second))))
		b := framed(head(1, "b"), index, first, second)
		sane(t, b)
		for range 2 {
			x := openBytes(t, b)
			if x == nil || x.Count() != 3 {
				t.Fatalf("%s: not opened", what)
			}
			_, ok, errno := x.Get([]byte("a"), 3)
			is(t, what, errno, want)
			if ok != (want == api.OK) {
				t.Errorf("%s: %v", what, ok)
			}
			_, errno = versions(x, "", "")
			is(t, what, errno, want)
			if l, errno := versions(x, "b", ""); !slices.Equal(l, list("b1")) && (want == api.OK || errno != want) {
				t.Errorf("%s: behind it %v, %d", what, l, errno)
			}
		}
	}
	broken("as it was", api.OK, packed(keys(two), v(6, "x"), v(5, "")))
	broken("another value", api.OK, packed(keys(two), v(6, "y"), v(4, "")))
	broken("two keys", api.OK, packed(keys(one, key("aa", number(1))), v(6, "x"), v(6, "")))
	for what, first := range map[string][]byte{
		"nothing":             nil,
		"keys cut":            []byte(number(5) + "a"),
		"broken keys":         []byte(told("\x01") + v(6, "x") + v(5, "")),
		"no keys":             packed(nil),
		"no number":           packed(keys(key("a", "")), v(6, "x"), v(5, "")),
		"more than a number":  packed(keys(key("a", number(2)+"\x00")), v(6, "x"), v(5, "")),
		"a key of none":       packed(keys(two, key("aa", number(0))), v(6, "x"), v(5, "")),
		"a version less":      packed(keys(two), v(6, "x")),
		"no end of versions":  packed(keys(key("a", number(math.MaxUint64))), v(6, "x"), v(5, "")),
		"a version more":      packed(keys(two), v(6, "x"), v(5, ""), v(2, "")),
		"a byte more":         packed(keys(two), v(6, "x"), v(5, ""), "\x00"),
		"a byte less":         packed(keys(two), v(6, "x"), "\x05"),
		"another first key":   packed(keys(key("aa", number(2))), v(6, "x"), v(5, "")),
		"another number":      packed(keys(two), v(8, "x"), v(5, "")),
		"fewer than the row":  packed(keys(one), v(6, "x")),
		"more than the row":   packed(keys(key("a", number(3))), v(6, "x"), v(5, ""), v(2, "")),
		"numbers alike":       packed(keys(two), v(6, "x"), v(7, "")),
		"numbers that rise":   packed(keys(two), v(6, "x"), v(8, "")),
		"number 0":            packed(keys(two), v(6, "x"), v(0, "")),
		"a great number":      packed(keys(two), v(1<<41+2, "x"), v(5, "")),
		"a great number more": packed(keys(one, key("aa", number(1))), v(6, "x"), v(1<<41+2, "")),
		"the greatest number": packed(keys(one, key("aa", number(1))), v(6, "x"), v(math.MaxUint64-1, "")),
		"a dead value":        packed(keys(two), v(6, "x"), v(5, "v")),
		"a long value":        packed(keys(two), v(6, long), v(5, "")),
		"the next one's key":  packed(keys(one, key("b", number(1))), v(6, "x"), v(2, "")),
		"beyond the next one": packed(keys(one, key("c", number(1))), v(6, "x"), v(2, "")),
	} {
		broken(what, api.ErrCorrupt, first)
	}
}

// The last block ends with the greatest key, and one that ends ahead of the next one may share its key.
func TestFormOfLastBlock(t *testing.T) {
	one := key("a", number(1))
	first, second := packed(keys(one), v(6, "")), packed(keys(one), v(4, ""))
	index := packed(keys(key("a", number(2))), row(6, 1, len(framed(first))), row(4, 1, len(framed(second))))
	for _, c := range []struct {
		greatest string
		want     api.Errno
	}{{"a", api.OK}, {"b", api.ErrCorrupt}, {"", api.ErrCorrupt}, {"\x00", api.ErrCorrupt}} {
		x := openBytes(t, framed(head(1, c.greatest), index, first, second))
		if x == nil {
			t.Fatalf("%q: not opened", c.greatest)
		}
		l, errno := versions(x, "", "")
		is(t, fmt.Sprintf("Entries up to %q", c.greatest), errno, c.want)
		if n := len(l); n != 1 && n != 2 || (n == 2) != (c.want == api.OK) {
			t.Errorf("up to %q: %v", c.greatest, l)
		}
		if _, ok, errno := x.Get([]byte("a"), 2); errno != c.want || ok != (c.want == api.OK) {
			t.Errorf("up to %q: Get: %v, %d", c.greatest, ok, errno)
		}
	}
}

// A block is a frame and nothing more, though the index speaks of more.
func TestFormOfPlaces(t *testing.T) {
	first := packed(keys(key("a", number(1))), v(6, ""))
	for more := range 3 {
		index := packed(keys(key("a", number(1))), row(6, 1, len(framed(first))+more))
		x := openBytes(t, append(framed(head(1, "a"), index, first), "more"[:more]...))
		if x == nil {
			t.Fatalf("%d bytes more: not opened", more)
		}
		_, _, errno := x.Get([]byte("a"), 3)
		if want := map[bool]api.Errno{true: api.OK, false: api.ErrCorrupt}[more == 0]; errno != want {
			t.Errorf("%d bytes more: Get: %d, not %d", more, errno, want)
		}
	}
}

// A block that was refused once is refused again, and the others still answer.
func TestFaultLasts(t *testing.T) {
	l := list("a3=x", "a2!", "b1=yz", "c2")
	b := bytesOf(t, l, 1)
	b[len(b)-1] ^= 1
	x := openBytes(t, b)
	for range 3 {
		if _, _, errno := x.Get([]byte("c"), 2); errno != api.ErrCorrupt {
			t.Errorf("Get: %d", errno)
		}
		if got, errno := versions(x, "", ""); !slices.Equal(got, l[:3]) || errno != api.ErrCorrupt {
			t.Errorf("Entries: %v, %d", got, errno)
		}
		hasLast(t, x, l, "b", 1)
		hasBounds(t, x, l)
	}
}
