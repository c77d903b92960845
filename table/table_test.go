package table_test

import (
	"fmt"
	"math"
	"math/rand"
	"slices"
	"strings"
	"testing"

	"usance/api"
	"usance/table"
	"usance/vdisk"
)

var never = api.Plan{Ops: -1, Room: -1}

// version is an entry as texts, which can be held against each other.
type version struct {
	key   string
	seq   int
	dead  bool
	value string
}

func asEntries(list []version) []api.Entry {
	var entries []api.Entry
	for _, v := range list {
		entries = append(entries, api.Entry{Key: []byte(v.key), Seq: v.seq, Dead: v.dead, Value: []byte(v.value)})
	}
	return entries
}

func asVersion(e api.Entry) version {
	return version{string(e.Key), e.Seq, e.Dead, string(e.Value)}
}

// list is made of words such as "b5=x" or "b3", dead ones such as "c4!".
func list(words ...string) []version {
	var l []version
	for _, word := range words {
		var v version
		head, value, _ := strings.Cut(word, "=")
		fmt.Sscanf(head[1:], "%d", &v.seq)
		v.key, v.value, v.dead = head[:1], value, strings.HasSuffix(head, "!")
		l = append(l, v)
	}
	return l
}

func is(t *testing.T, what string, got, want api.Errno) {
	t.Helper()
	if got != want {
		t.Fatalf("%s: %d, not %d", what, got, want)
	}
}

func open(t *testing.T, d *vdisk.Disk, name string) *table.Table {
	t.Helper()
	x, errno := table.Open(d, name)
	is(t, "Open", errno, api.OK)
	if x == nil {
		t.Fatal("Open: OK and no table")
	}
	return x
}

// tableOf is the table of the list, by way of a disk.
func tableOf(t *testing.T, l []version, block int) *table.Table {
	t.Helper()
	d := vdisk.New(never)
	is(t, "Write", table.Write(d, "t", asEntries(l), block), api.OK)
	return open(t, d, "t")
}

// within are the list's versions whose keys are not below lo and below hi.
func within(l []version, lo, hi string) []version {
	return slices.DeleteFunc(slices.Clone(l), func(v version) bool { return v.key < lo || hi != "" && v.key >= hi })
}

// last is the list's version of the key with the greatest number up to seq.
func last(l []version, key string, seq int) (best version, ok bool) {
	for _, v := range l {
		if v.key == key && v.seq <= seq && v.seq > best.seq {
			best, ok = v, true
		}
	}
	return best, ok
}

// versions are all that the iterator tells, and the error that ended it.
func versions(x *table.Table, lo, hi string) ([]version, api.Errno) {
	var l []version
	end := api.OK
	for e, errno := range x.Entries([]byte(lo), []byte(hi)) {
		if end != api.OK {
			return nil, -1
		}
		if end = errno; end == api.OK {
			l = append(l, asVersion(e))
		} else if asVersion(e) != (version{}) {
			return nil, -2
		}
	}
	return l, end
}

func hasEntries(t *testing.T, x *table.Table, l []version, lo, hi string) {
	t.Helper()
	want := within(l, lo, hi)
	if got, errno := versions(x, lo, hi); errno != api.OK || !slices.Equal(got, want) {
		t.Fatalf("Entries(%q, %q): %d, %d of them, not %d\n%.300v\n%.300v", lo, hi, errno, len(got), len(want), got, want)
	}
}

func hasLast(t *testing.T, x *table.Table, l []version, key string, seq int) {
	t.Helper()
	want, there := last(l, key, seq)
	got, ok, errno := x.Get([]byte(key), seq)
	if errno != api.OK || ok != there || asVersion(got) != want {
		t.Fatalf("Get(%q, %d): %.300v, %v, %d; not %.300v, %v", key, seq, asVersion(got), ok, errno, want, there)
	}
}

func hasBounds(t *testing.T, x *table.Table, l []version) {
	t.Helper()
	lo, hi := x.Bounds()
	if string(lo) != l[0].key || string(hi) != l[len(l)-1].key || x.Count() != len(l) {
		t.Fatalf("Bounds %q, %q, Count %d", lo, hi, x.Count())
	}
}

// The chapter's example.
func TestExample(t *testing.T) {
	x := tableOf(t, list("b5", "b3", "c4"), 2)
	if e, ok, errno := x.Get([]byte("b"), 4); asVersion(e) != list("b3")[0] || !ok || errno != api.OK {
		t.Errorf("Get(b, 4): %v, %v, %d", e, ok, errno)
	}
	if e, ok, errno := x.Get([]byte("b"), 2); asVersion(e) != (version{}) || ok || errno != api.OK {
		t.Errorf("Get(b, 2): %v, %v, %d", e, ok, errno)
	}
	if l, errno := versions(x, "b", "c"); !slices.Equal(l, list("b5", "b3")) || errno != api.OK {
		t.Errorf("Entries(b, c): %v, %d", l, errno)
	}
}

// All lists of short keys and low numbers, in blocks of each size: every question has the answer that the list has.
func TestShortLists(t *testing.T) {
	all := list("a3=x", "a2!", "a1", "b3!", "b1=yz", "c2")
	asked := []string{"", "\x00", "a", "a\x00", "b", "bb", "c", "d", "\xff"}
	for pick := 1; pick < 1<<len(all); pick++ {
		var l []version
		for i, v := range all {
			if pick>>i&1 == 1 {
				l = append(l, v)
			}
		}
		for block := 1; block <= len(l)+1; block++ {
			x := tableOf(t, l, block)
			hasBounds(t, x, l)
			for _, lo := range asked {
				for _, hi := range asked {
					hasEntries(t, x, l, lo, hi)
				}
				for seq := range 5 {
					hasLast(t, x, l, lo, seq)
				}
			}
		}
	}
}

// Each question is answered by a table that nobody asked before as by one that was asked all.
func TestFirstQuestion(t *testing.T) {
	l := list("a3=x", "a2!", "a1", "b3!", "b1=yz", "c2")
	d := vdisk.New(never)
	is(t, "Write", table.Write(d, "t", asEntries(l), 2), api.OK)
	for _, key := range []string{"", "a", "aa", "b", "c", "d"} {
		for _, seq := range []int{math.MinInt, -1, 0, 1, 2, 3, 4, 1 << 40, math.MaxInt} {
			hasLast(t, open(t, d, "t"), l, key, seq)
		}
		hasEntries(t, open(t, d, "t"), l, key, "")
		hasEntries(t, open(t, d, "t"), l, key, "b")
		hasEntries(t, open(t, d, "t"), l, "", key)
	}
}

// someVersions are a list that may stand: keys of few letters, so that many are alike, and numbers of all sizes.
func someVersions(r *rand.Rand, n int) []version {
	var l []version
	for range n {
		v := version{seq: 1 + r.Intn(1<<r.Intn(41)), dead: r.Intn(4) == 0}
		for range 1 + r.Intn(4) {
			v.key += string("\x00ab\xff"[r.Intn(4)])
		}
		if !v.dead {
			v.value = strings.Repeat("v", r.Intn(20))
		}
		l = append(l, v)
	}
	slices.SortFunc(l, func(x, y version) int {
		if x.key != y.key {
			return strings.Compare(x.key, y.key)
		}
		return y.seq - x.seq
	})
	return slices.CompactFunc(l, func(x, y version) bool { return x.key == y.key && x.seq == y.seq })
}

func TestSomeLists(t *testing.T) {
	r := rand.New(rand.NewSource(10))
	for range 400 {
		l := someVersions(r, 1+r.Intn(60))
		x := tableOf(t, l, 1+r.Intn(1<<r.Intn(11)))
		hasBounds(t, x, l)
		for range 60 {
			v, w := l[r.Intn(len(l))], l[r.Intn(len(l))]
			hasLast(t, x, l, v.key, v.seq+r.Intn(3)-1)
			hasLast(t, x, l, v.key[1:], w.seq)
			hasEntries(t, x, l, v.key, w.key)
			hasEntries(t, x, l, v.key+"\x00", "")
		}
	}
}

// The longest keys, values and numbers, as many as a block takes: no frame takes all of that at once.
func TestGreatestBlock(t *testing.T) {
	var l []version
	for i := range 2100 {
		key := fmt.Sprintf("%0200d", i/2)
		l = append(l, version{key: key, seq: 1<<40 - i%2, value: strings.Repeat(string('a'+rune(i%26)), 4096)})
	}
	for _, block := range []int{1, 1024} {
		x := tableOf(t, l, block)
		hasBounds(t, x, l)
		hasEntries(t, x, l, "", "")
		for i := 0; i < len(l); i += 50 {
			hasLast(t, x, l, l[i].key, l[i].seq)
			hasLast(t, x, l, l[i].key, l[i].seq-1)
			hasLast(t, x, l, l[i].key, l[i].seq-2)
		}
	}
}

// Versions of one key alone, more than any block takes.
func TestManyOfOneKey(t *testing.T) {
	var l []version
	for seq := 5000; seq > 0; seq-- {
		l = append(l, version{key: "k", seq: 2 * seq, dead: seq%7 == 0})
	}
	for _, block := range []int{1, 7, 1023, 1024} {
		x := tableOf(t, l, block)
		hasBounds(t, x, l)
		hasEntries(t, x, l, "", "")
		hasEntries(t, x, l, "k", "l")
		hasEntries(t, x, l, "k", "k")
		for seq := 0; seq < 10004; seq += 13 {
			hasLast(t, x, l, "k", seq)
		}
	}
}

// So many blocks with so long keys that no frame takes what is told of them at once; and nothing takes as long as all that is there, again and again.
func TestManyBlocks(t *testing.T) {
	var l []version
	for i := range 30000 {
		l = append(l, version{key: fmt.Sprintf("%0200d", 3*i), seq: 1 + i})
	}
	x := tableOf(t, l, 1)
	hasBounds(t, x, l)
	for i, v := range l {
		e, ok, errno := x.Get([]byte(v.key), 1<<40)
		if asVersion(e) != v || !ok || errno != api.OK {
			t.Fatalf("Get(%q): %v, %v, %d", v.key, e, ok, errno)
		}
		if _, ok, errno = x.Get([]byte(v.key), i); ok || errno != api.OK {
			t.Fatalf("Get(%q, %d): %v, %d", v.key, i, ok, errno)
		}
	}
	hasEntries(t, x, l, l[777].key, l[29000].key)
	hasEntries(t, x, l, "", "")
}

// However often a block is asked, it is read once: it takes longer than many questions do.
func TestAskedAgain(t *testing.T) {
	var l []version
	for i := range 200 {
		l = append(l, version{key: fmt.Sprintf("%03d", i), seq: 1, value: strings.Repeat("v", 4096)})
	}
	x := tableOf(t, l, 1024)
	for i := range 100000 {
		want := l[i%len(l)]
		if e, ok, errno := x.Get([]byte(want.key), 1); asVersion(e) != want || !ok || errno != api.OK {
			t.Fatalf("Get(%q): %.100v, %v, %d", want.key, e, ok, errno)
		}
	}
}

// Whoever has enough of the entries gets no more, and may go over them again.
func TestEntriesStop(t *testing.T) {
	l := list("a3=x", "a2!", "a1", "b3!", "b1=yz", "c2")
	for block := 1; block < 8; block++ {
		entries := tableOf(t, l, block).Entries(nil, nil)
		for n := range len(l) {
			var got []version
			for e := range entries {
				got = append(got, asVersion(e))
				if len(got) > n {
					break
				}
			}
			if !slices.Equal(got, l[:n+1]) {
				t.Fatalf("%d entries: %v", n+1, got)
			}
		}
	}
}

// Within one going over the entries others are answered.
func TestEntriesWithin(t *testing.T) {
	l := list("a3=x", "a2!", "a1", "b3!", "b1=yz", "c2")
	x := tableOf(t, l, 2)
	n := 0
	for e := range x.Entries(nil, nil) {
		hasEntries(t, x, l, "", "")
		hasLast(t, x, l, "b", 2)
		if asVersion(e) != l[n] {
			t.Fatalf("entry %d: %v", n, e)
		}
		n++
	}
	if n != len(l) {
		t.Errorf("%d entries", n)
	}
}

// What nobody asks the disk for any more isn't asked of it: a table stands for the file as it was opened.
func TestTableOutlivesFile(t *testing.T) {
	l := list("a3=x", "a2!", "b1=yz", "c2")
	d := vdisk.New(never)
	is(t, "Write", table.Write(d, "t", asEntries(l), 1), api.OK)
	x := open(t, d, "t")
	hasLast(t, x, l, "a", 2)
	is(t, "Delete", d.Delete("t"), api.OK)
	is(t, "Write", table.Write(d, "t", asEntries(list("x1")), 1), api.OK)
	hasLast(t, x, l, "c", 2)
	hasEntries(t, x, l, "", "")
	hasBounds(t, x, l)
	hasEntries(t, open(t, d, "t"), list("x1"), "", "")
}
