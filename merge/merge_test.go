package merge_test

import (
	"cmp"
	"fmt"
	"math"
	"math/rand"
	"slices"
	"strings"
	"testing"

	"usance/api"
	"usance/merge"
)

func is(t *testing.T, what string, got, want api.Errno) {
	t.Helper()
	if got != want {
		t.Fatalf("%s: %d, not %d", what, got, want)
	}
}

func of(key string, seq int, value string) api.Entry {
	return api.Entry{Key: []byte(key), Seq: seq, Value: []byte(value)}
}

func dead(key string, seq int) api.Entry {
	return api.Entry{Key: []byte(key), Seq: seq, Dead: true}
}

type list = []api.Entry

// told is an entry as a text that tells all of it.
func told(e api.Entry) string {
	return fmt.Sprintf("%q %d %t %q", e.Key, e.Seq, e.Dead, e.Value)
}

func tellAll(entries list) []string {
	var texts []string
	for _, e := range entries {
		texts = append(texts, told(e))
	}
	return texts
}

func tellPairs(pairs []api.Pair) []string {
	var texts []string
	for _, p := range pairs {
		texts = append(texts, fmt.Sprintf("%q %q", p.Key, p.Value))
	}
	return texts
}

// sorted are the entries in the order of layer 10's words.
func sorted(entries list) list {
	l := slices.Clone(entries)
	slices.SortFunc(l, func(x, y api.Entry) int {
		return cmp.Or(strings.Compare(string(x.Key), string(y.Key)), y.Seq-x.Seq)
	})
	return l
}

// newest is of the key's entries up to seq, wherever they stand, the one with the greatest number.
func newest(entries list, key string, seq int) (api.Entry, bool) {
	best := api.Entry{Seq: math.MinInt}
	for _, e := range entries {
		if string(e.Key) == key && e.Seq <= seq && e.Seq > best.Seq {
			best = e
		}
	}
	return best, best.Key != nil
}

// seen is what P12.2's words say of the entries at seq.
func seen(entries list, seq int) []string {
	values := map[string]string{}
	for _, e := range entries {
		if last, ok := newest(entries, string(e.Key), seq); ok && !last.Dead {
			values[string(e.Key)] = string(last.Value)
		}
	}
	var texts []string
	for key, value := range values {
		texts = append(texts, fmt.Sprintf("%q %q", key, value))
	}
	// By the keys themselves, which their quoted texts needn't follow.
	slices.SortFunc(texts, func(x, y string) int { return strings.Compare(unquoted(x), unquoted(y)) })
	return texts
}

func unquoted(text string) string {
	var key, value string
	fmt.Sscanf(text, "%q %q", &key, &value)
	return key
}

// needed is what P12.3's words leave of entries that are in order.
func needed(entries list, mark int, bottom bool) []string {
	var texts []string
	for _, e := range entries {
		last, ok := newest(entries, string(e.Key), mark)
		isLast := ok && last.Seq == e.Seq
		if e.Seq > mark || isLast && (!bottom || !e.Dead) {
			texts = append(texts, told(e))
		}
	}
	return texts
}

func merges(t *testing.T, lists []list, want []string) {
	t.Helper()
	got, errno := merge.Merge(lists)
	is(t, "Merge", errno, api.OK)
	if !slices.Equal(tellAll(got), want) {
		t.Fatalf("Merge(%.500v): %.500q, not %.500q", lists, tellAll(got), want)
	}
}

func sees(t *testing.T, entries list, seq int, want []string) {
	t.Helper()
	got, errno := merge.Visible(entries, seq)
	is(t, "Visible", errno, api.OK)
	if !slices.Equal(tellPairs(got), want) {
		t.Fatalf("Visible(%.500v, %d): %.500q, not %.500q", tellAll(entries), seq, tellPairs(got), want)
	}
}

func thins(t *testing.T, entries list, mark int, bottom bool, want []string) list {
	t.Helper()
	got, errno := merge.Thin(entries, mark, bottom)
	is(t, "Thin", errno, api.OK)
	if !slices.Equal(tellAll(got), want) {
		t.Fatalf("Thin(%.500v, %d, %v): %.500q, not %.500q", tellAll(entries), mark, bottom, tellAll(got), want)
	}
	return got
}

// The chapter's example.
func TestExample(t *testing.T) {
	l := list{of("a", 5, ""), dead("a", 3), of("a", 2, "")}
	thins(t, l, 4, false, []string{`"a" 5 false ""`, `"a" 3 true ""`})
	thins(t, l, 4, true, []string{`"a" 5 false ""`})
}

// What the words say of a small list, told out.
func TestToldOut(t *testing.T) {
	lists := []list{{of("a", 5, "five"), of("c", 1, "")}, nil, {dead("a", 3), of("b", 2, "two")}, {of("a", 1, "one"), dead("b", 4)}}
	all := []string{`"a" 5 false "five"`, `"a" 3 true ""`, `"a" 1 false "one"`, `"b" 4 true ""`, `"b" 2 false "two"`, `"c" 1 false ""`}
	merges(t, lists, all)
	l, _ := merge.Merge(lists)
	for seq, want := range [][]string{
		nil,
		{`"a" "one"`, `"c" ""`},
		{`"a" "one"`, `"b" "two"`, `"c" ""`},
		{`"b" "two"`, `"c" ""`},
		{`"c" ""`},
		{`"a" "five"`, `"c" ""`},
	} {
		sees(t, l, seq, want)
	}
	for _, c := range []struct {
		mark   int
		bottom bool
		want   []string
	}{
		{-1, true, all},
		{0, true, all},
		{2, true, all},
		{3, false, []string{all[0], all[1], all[3], all[4], all[5]}},
		{3, true, []string{all[0], all[3], all[4], all[5]}},
		{4, false, []string{all[0], all[1], all[3], all[5]}},
		{4, true, []string{all[0], all[5]}},
		{5, false, []string{all[0], all[3], all[5]}},
		{5, true, []string{all[0], all[5]}},
	} {
		thins(t, l, c.mark, c.bottom, c.want)
	}
}

// allLists are all lists in order of these keys and the numbers 1 to 3, each version there, dead or absent.
func allLists(names ...string) []list {
	lists := []list{nil}
	for _, key := range names {
		for seq := 3; seq > 0; seq-- {
			for _, l := range lists {
				lists = append(lists, append(slices.Clone(l), dead(key, seq)), append(slices.Clone(l), of(key, seq, fmt.Sprint(key, seq))))
			}
		}
	}
	return lists
}

var someSeqs = []int{math.MinInt, math.MinInt + 1, -1, 0, 1, 2, 3, 4, 1 << 40, math.MaxInt - 1, math.MaxInt}

// Of all short lists what is seen and what is thinned out is what the words say; and from the mark on the one sees what the other does (P12.4).
func TestShortLists(t *testing.T) {
	lists := allLists("a", "b")
	lists = append(lists, allLists("\x00", "\x00\x00")...)
	for _, l := range lists {
		for _, seq := range someSeqs {
			sees(t, l, seq, seen(l, seq))
			for _, bottom := range []bool{false, true} {
				thin := thins(t, l, seq, bottom, needed(l, seq, bottom))
				for _, later := range someSeqs {
					if later >= seq {
						sees(t, thin, later, seen(l, later))
					}
				}
			}
		}
	}
}

// Six versions laid into three lists in all ways, some left out: merged they are in order. One of them laid into another list once more: ErrTwice.
func TestAllWaysIntoLists(t *testing.T) {
	all := list{of("a", 3, "x"), dead("a", 2), of("aa", 2, ""), of("b", 1<<40, "yz"), dead("b", 3), of("b", 1, "")}
	for way := range 1 << 12 {
		lists := make([]list, 3)
		var want []string
		for i, e := range all {
			if to := way >> (2 * i) % 4; to < 3 {
				lists[to] = append(lists[to], e)
				want = append(want, told(e))
			}
		}
		merges(t, lists, want)
		for _, e := range all {
			again := append(slices.Clone(lists), list{e})
			if slices.Contains(want, told(e)) {
				refuses(t, again, api.ErrTwice)
			} else {
				merges(t, again, tellAll(sorted(slices.Concat(again...))))
			}
		}
	}
}

func refuses(t *testing.T, lists []list, want api.Errno) {
	t.Helper()
	got, errno := merge.Merge(lists)
	if is(t, "Merge", errno, want); len(got) > 0 {
		t.Fatalf("beside %d: %v", errno, got)
	}
}

func TestOfNothing(t *testing.T) {
	for _, lists := range [][]list{nil, {}, {nil}, {{}, nil, {}}, make([]list, 1000)} {
		merges(t, lists, nil)
	}
	for _, seq := range someSeqs {
		for _, l := range []list{nil, {}} {
			sees(t, l, seq, nil)
			thins(t, l, seq, false, nil)
			thins(t, l, seq, true, nil)
		}
	}
}

// A list alone, and one among empty ones, stays as it is.
func TestOneList(t *testing.T) {
	for _, l := range allLists("a", "b") {
		merges(t, []list{l}, tellAll(l))
		merges(t, []list{nil, l, {}}, tellAll(l))
	}
}

// someEntries are entries that may be, no two of one key and number, keys of few letters with many numbers.
func someEntries(r *rand.Rand, many int) list {
	var l list
	there := map[string]bool{}
	for range many {
		key := ""
		for range 1 + r.Intn(4) {
			key += string("\x00ab\xff"[r.Intn(4)])
		}
		e := of(key, 1+r.Intn(20), strings.Repeat("v", r.Intn(20)))
		if r.Intn(3) == 0 {
			e = dead(key, e.Seq)
		}
		if place := fmt.Sprintf("%q %d", key, e.Seq); !there[place] {
			there[place] = true
			l = append(l, e)
		}
	}
	return l
}

// dealt are the entries in so many lists, each in order.
func dealt(r *rand.Rand, entries list, into int) []list {
	lists := make([]list, into)
	for _, e := range entries {
		to := r.Intn(into)
		lists[to] = append(lists[to], e)
	}
	for i, l := range lists {
		lists[i] = sorted(l)
	}
	return lists
}

// Long lists, few and many, in any order of the lists.
func TestLongLists(t *testing.T) {
	r := rand.New(rand.NewSource(12))
	for _, into := range []int{1, 2, 3, 4, 5, 7, 8, 16, 33, 100, 1000} {
		for range 20 {
			entries := someEntries(r, r.Intn(800))
			lists := dealt(r, entries, into)
			l := sorted(entries)
			merges(t, lists, tellAll(l))
			r.Shuffle(into, func(i, k int) { lists[i], lists[k] = lists[k], lists[i] })
			merges(t, lists, tellAll(l))
			if len(entries) > 0 {
				twice := append(lists, list{entries[r.Intn(len(entries))]})
				r.Shuffle(into+1, func(i, k int) { twice[i], twice[k] = twice[k], twice[i] })
				refuses(t, twice, api.ErrTwice)
			}
		}
	}
}

func TestLongListsSeenAndThin(t *testing.T) {
	r := rand.New(rand.NewSource(13))
	for range 20 {
		l := sorted(someEntries(r, r.Intn(400)))
		for mark := -1; mark <= 22; mark += 1 + r.Intn(4) {
			sees(t, l, mark, seen(l, mark))
			for _, bottom := range []bool{false, true} {
				thin := thins(t, l, mark, bottom, needed(l, mark, bottom))
				for seq := mark; seq <= 22; seq++ {
					sees(t, thin, seq, seen(l, seq))
				}
			}
		}
	}
}

// As many lists as entries, and many entries of few lists that lie one behind the other or within one another.
func TestManyLists(t *testing.T) {
	const many = 20000
	var single, want list
	var lists []list
	for n := range many {
		want = append(want, of(fmt.Sprintf("%06d", n/3), 9-n%3, "v"))
	}
	for n := range many {
		single = append(single, want[many-1-n])
		lists = append(lists, single[n:])
	}
	texts := tellAll(want)
	merges(t, lists, texts)
	merges(t, []list{want[many/2:], want[:many/2]}, texts)
	merges(t, []list{want[1 : many-1], want[:1], want[many-1:]}, texts)
	var odd, even list
	for n, e := range want {
		if n%2 > 0 {
			odd = append(odd, e)
		} else {
			even = append(even, e)
		}
	}
	merges(t, []list{odd, even}, texts)
}
