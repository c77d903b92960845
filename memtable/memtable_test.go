package memtable_test

import (
	"cmp"
	"fmt"
	"iter"
	"math"
	"math/rand"
	"slices"
	"strings"
	"testing"

	"usance/api"
	"usance/memtable"
)

func is(t *testing.T, what string, got, want api.Errno) {
	t.Helper()
	if got != want {
		t.Fatalf("%s: %d, not %d", what, got, want)
	}
}

// told is an entry as a text that tells all of it.
func told(e api.Entry) string {
	return fmt.Sprintf("%q %d %t %q", e.Key, e.Seq, e.Dead, e.Value)
}

func of(key string, seq int, value string) api.Entry {
	return api.Entry{Key: []byte(key), Seq: seq, Value: []byte(value)}
}

func dead(key string, seq int) api.Entry {
	return api.Entry{Key: []byte(key), Seq: seq, Dead: true}
}

// list is what a table is told, one behind the other: what it should answer is looked for in it all.
type list []api.Entry

// get is told of the key's entry with the greatest number up to seq; of none nothing.
func (l list) get(key string, seq int) string {
	best := api.Entry{Seq: math.MinInt}
	for _, e := range l {
		if string(e.Key) == key && e.Seq <= seq && e.Seq > best.Seq {
			best = e
		}
	}
	if best.Key == nil {
		return ""
	}
	return told(best)
}

// within are the entries whose keys are not below lo and below hi, in order.
func (l list) within(lo, hi string) []string {
	sorted := slices.Clone(l)
	slices.SortFunc(sorted, func(x, y api.Entry) int {
		return cmp.Or(strings.Compare(string(x.Key), string(y.Key)), y.Seq-x.Seq)
	})
	var texts []string
	for _, e := range sorted {
		if key := string(e.Key); key >= lo && (hi == "" || key < hi) {
			texts = append(texts, told(e))
		}
	}
	return texts
}

func (l list) has(key string, seq int) bool {
	return slices.ContainsFunc(l, func(e api.Entry) bool { return string(e.Key) == key && e.Seq == seq })
}

func tableOf(t *testing.T, heights []int, l list) *memtable.Table {
	t.Helper()
	m := memtable.New(heights)
	for _, e := range l {
		is(t, "Put("+told(e)+")", m.Put(e), api.OK)
	}
	return m
}

func texts(entries iter.Seq[api.Entry]) []string {
	var got []string
	for e := range entries {
		got = append(got, told(e))
	}
	return got
}

func hasEntries(t *testing.T, m *memtable.Table, l list, lo, hi string) {
	t.Helper()
	want := l.within(lo, hi)
	if got := texts(m.Entries([]byte(lo), []byte(hi))); !slices.Equal(got, want) || m.Len() != len(l) {
		t.Fatalf("Entries(%q, %q): %d of %d, not %d of %d\n%.300v\n%.300v", lo, hi, len(got), m.Len(), len(want), len(l), got, want)
	}
}

func hasLast(t *testing.T, m *memtable.Table, l list, key string, seq int) {
	t.Helper()
	want := l.get(key, seq)
	got, ok, errno := m.Get([]byte(key), seq)
	is(t, "Get", errno, api.OK)
	if ok != (want != "") || ok && told(got) != want || !ok && told(got) != told(api.Entry{}) {
		t.Fatalf("Get(%q, %d): %.300s, %v; not %.300s", key, seq, told(got), ok, want)
	}
}

var (
	someHeights = [][]int{nil, {1}, {12}, {2, 1}, {1, 2, 1, 3}, {3, 1, 99, -5}, {0, 13, math.MinInt, math.MaxInt}}
	someKeys    = []string{"", "\x00", "a", "a\x00", "aa", "b", "b\x00", "c", "\xff"}
	someSeqs    = []int{math.MinInt, -1, 0, 1, 2, 3, 4, 1 << 40, math.MaxInt}
)

// holds tells that a table answers every question as the list does.
func holds(t *testing.T, m *memtable.Table, l list) {
	t.Helper()
	for _, key := range someKeys {
		for _, hi := range someKeys {
			hasEntries(t, m, l, key, hi)
		}
		for _, seq := range someSeqs {
			hasLast(t, m, l, key, seq)
		}
	}
}

// The chapter's example.
func TestExample(t *testing.T) {
	m := tableOf(t, nil, list{of("a", 2, ""), of("a", 1, ""), of("b", 1, "")})
	want := []string{`"a" 2 false ""`, `"a" 1 false ""`, `"b" 1 false ""`}
	if got := texts(m.Entries(nil, nil)); !slices.Equal(got, want) {
		t.Errorf("Entries: %q", got)
	}
	m = tableOf(t, nil, list{of("b", 1, ""), of("a", 1, ""), of("a", 2, "")})
	if got := texts(m.Entries(nil, nil)); !slices.Equal(got, want) {
		t.Errorf("put the other way round: %q", got)
	}
}

// ways are all orders of the entries.
func ways(l list) []list {
	if len(l) == 0 {
		return []list{nil}
	}
	var all []list
	for i, e := range l {
		for _, way := range ways(slices.Delete(slices.Clone(l), i, i+1)) {
			all = append(all, append(list{e}, way...))
		}
	}
	return all
}

// Few entries, put in all orders under several heights: every question has the answer that the list has, and hangs on neither.
func TestEachOrder(t *testing.T) {
	all := list{of("a", 3, "x"), dead("a", 2), of("a", 1, ""), of("aa", 2, "yz"), dead("b", 3)}
	for _, way := range ways(all) {
		for _, heights := range someHeights {
			holds(t, tableOf(t, heights, way), all)
		}
	}
}

// Behind each Put every question has its answer, from the empty table on.
func TestBehindEachPut(t *testing.T) {
	way := list{of("b", 2, "x"), of("a\x00", 1, ""), dead("b", 3), of("\xff", 1<<40, "v"), of("a", 4, "yz"), of("b", 1, ""), dead("a", 1), of("\x00", 1, "v")}
	for _, heights := range someHeights {
		m := memtable.New(heights)
		for i, e := range way {
			holds(t, m, way[:i])
			is(t, "Put", m.Put(e), api.OK)
		}
		holds(t, m, way)
	}
}

// someEntry is one that may be: keys of few letters, so that many are alike, and few numbers.
func someEntry(r *rand.Rand) api.Entry {
	key := ""
	for range 1 + r.Intn(4) {
		key += string("\x00ab\xff"[r.Intn(4)])
	}
	if r.Intn(4) == 0 {
		return dead(key, 1+r.Intn(20))
	}
	return of(key, 1+r.Intn(20), strings.Repeat("v", r.Intn(20)))
}

// Long ways: tables of all heights answer each Put alike, as the list does, and hold what it holds.
func TestLongWays(t *testing.T) {
	r := rand.New(rand.NewSource(11))
	var tables []*memtable.Table
	for _, heights := range someHeights {
		tables = append(tables, memtable.New(heights))
	}
	var l list
	for n := range 4000 {
		e := someEntry(r)
		want := api.OK
		if r.Intn(10) == 0 {
			e.Seq, want = -e.Seq, api.ErrKey
		} else if l.has(string(e.Key), e.Seq) {
			want = api.ErrTwice
		} else {
			l = append(l, e)
		}
		lo, hi := someEntry(r), someEntry(r)
		for _, m := range tables {
			is(t, "Put("+told(e)+")", m.Put(e), want)
			if n%40 == 0 {
				hasEntries(t, m, l, string(lo.Key), string(hi.Key))
				hasLast(t, m, l, string(lo.Key), hi.Seq)
			}
		}
	}
	for _, m := range tables {
		hasEntries(t, m, l, "", "")
		for _, e := range l {
			hasLast(t, m, l, string(e.Key), e.Seq)
			hasLast(t, m, l, string(e.Key), e.Seq-1)
		}
	}
}

// As many as a store may keep in memory, in order, against it, and over and over the same key.
func TestMany(t *testing.T) {
	const many = 4096
	for _, heights := range someHeights {
		rising, falling, one := memtable.New(heights), memtable.New(heights), memtable.New(heights)
		var l, versions list
		for n := range many {
			l = append(l, of(fmt.Sprintf("%06d", n), 1, "v"))
			versions = append(versions, of("k", n+1, "v"))
			is(t, "Put", falling.Put(of(fmt.Sprintf("%06d", many-1-n), 1, "v")), api.OK)
			is(t, "Put", rising.Put(l[n]), api.OK)
			is(t, "Put", one.Put(versions[n]), api.OK)
		}
		hasEntries(t, rising, l, "", "")
		hasEntries(t, falling, l, "", "")
		hasEntries(t, falling, l, "001000", "003000")
		hasEntries(t, one, versions, "k", "l")
		hasLast(t, one, versions, "k", 2000)
	}
}
