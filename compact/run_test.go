package compact_test

import (
	"cmp"
	"fmt"
	"math"
	"math/rand"
	"slices"
	"strings"
	"testing"

	"usance/api"
	"usance/compact"
	"usance/merge"
)

// told is an entry as a text that tells all of it.
func told(e api.Entry) string {
	return fmt.Sprintf("%q %d %t %q", e.Key, e.Seq, e.Dead, e.Value)
}

func tellPieces(pieces []list) []string {
	var texts []string
	for _, l := range pieces {
		var b strings.Builder
		for _, e := range l {
			b.WriteString(told(e) + "; ")
		}
		texts = append(texts, b.String())
	}
	return texts
}

func runs(t *testing.T, lists []list, mark int, bottom bool, size int, want []list) {
	t.Helper()
	got, errno := compact.Run(lists, mark, bottom, size)
	is(t, "Run", errno, api.OK)
	if !slices.Equal(tellPieces(got), tellPieces(want)) {
		t.Fatalf("Run(%.500v, %d, %v, %d): %.500q, not %.500q", lists, mark, bottom, size, tellPieces(got), tellPieces(want))
	}
}

func refuses(t *testing.T, lists []list, size int, want api.Errno) {
	t.Helper()
	for _, mark := range someSeqs {
		for _, bottom := range []bool{false, true} {
			got, errno := compact.Run(lists, mark, bottom, size)
			if is(t, "Run", errno, want); len(got) > 0 {
				t.Fatalf("beside %d: %v", errno, got)
			}
		}
	}
}

// sorted are the entries in the order of layer 10's words.
func sorted(entries list) list {
	l := slices.Clone(entries)
	slices.SortFunc(l, func(x, y api.Entry) int {
		return cmp.Or(strings.Compare(string(x.Key), string(y.Key)), y.Seq-x.Seq)
	})
	return l
}

// needed are the entries that stay, by layer 12's words: each is asked whether another one of its key makes it needless.
func needed(entries list, mark int, bottom bool) list {
	return slices.DeleteFunc(slices.Clone(entries), func(e api.Entry) bool {
		if e.Seq > mark {
			return false
		}
		return bottom && e.Dead || slices.ContainsFunc(entries, func(x api.Entry) bool {
			return string(x.Key) == string(e.Key) && x.Seq > e.Seq && x.Seq <= mark
		})
	})
}

// inPieces lays the entries key by key, all of one key at once, into pieces that take more while they have fewer than size.
func inPieces(entries list, size int) []list {
	var pieces []list
	for len(entries) > 0 {
		n := 1
		for n < len(entries) && string(entries[n].Key) == string(entries[0].Key) {
			n++
		}
		if k := len(pieces); k > 0 && len(pieces[k-1]) < size {
			pieces[k-1] = append(pieces[k-1], entries[:n]...)
		} else {
			pieces = append(pieces, slices.Clone(entries[:n]))
		}
		entries = entries[n:]
	}
	return pieces
}

var (
	someSeqs  = []int{math.MinInt, -1, 0, 1, 2, 3, 4, 1 << 40, math.MaxInt}
	someSizes = []int{1, 2, 3, 4, 5, 6, 4096, math.MaxInt}
)

// allLists are all lists in order of these keys and the numbers 1 to 3, each version there, dead or absent.
func allLists(names ...string) []list {
	lists := []list{nil}
	for _, key := range names {
		for seq := 3; seq > 0; seq-- {
			for _, l := range lists {
				lists = append(lists, append(slices.Clone(l), dead(key, seq)), append(slices.Clone(l), of(key, seq, fmt.Sprint(key, seq))))
			}
		}
	}
	return lists
}

// Of all short lists, alone and cut in two, each mark and size, Run is what the words say (P14.4).
func TestRunOfShortLists(t *testing.T) {
	lists := allLists("a", "b")
	lists = append(lists, allLists("\x00", "\x00\x00")...)
	for n, l := range lists {
		middle := n % (len(l) + 1)
		for _, mark := range someSeqs {
			for _, bottom := range []bool{false, true} {
				rest := needed(l, mark, bottom)
				for _, size := range someSizes {
					want := inPieces(rest, size)
					runs(t, []list{l}, mark, bottom, size, want)
					runs(t, []list{l[middle:], nil, l[:middle]}, mark, bottom, size, want)
				}
			}
		}
	}
}

// A piece ends at the first place where it has size entries and the next one has another key: it may have more, where they are of one key, and fewer at the end alone.
func TestPieces(t *testing.T) {
	l := list{of("a", 9, ""), of("b", 9, ""), of("b", 8, ""), of("b", 7, ""), of("c", 9, ""), of("d", 2, ""), of("d", 1, ""), of("e", 1, "")}
	for size, ends := range map[int][]int{
		1: {1, 4, 5, 7, 8},
		2: {4, 7, 8},
		3: {4, 7, 8},
		4: {4, 8},
		5: {5, 8},
		6: {7, 8},
		7: {7, 8},
		8: {8},
		9: {8},
	} {
		var want []list
		from := 0
		for _, end := range ends {
			want = append(want, l[from:end])
			from = end
		}
		runs(t, []list{l}, 0, false, size, want)
		runs(t, []list{l[4:], l[:4]}, 0, true, size, want)
	}
}

// What is forgotten doesn't count for the size, nor does a key of which nothing stays part two pieces.
func TestPiecesOfWhatStays(t *testing.T) {
	l := list{of("a", 3, ""), of("a", 2, ""), of("a", 1, ""), dead("b", 3), of("b", 2, ""), of("c", 1, ""), dead("d", 4), of("e", 1, "")}
	runs(t, []list{l}, 3, false, 2, []list{{l[0], l[3]}, {l[5], l[6]}, {l[7]}})
	runs(t, []list{l}, 3, true, 2, []list{{l[0], l[5]}, {l[6], l[7]}})
	runs(t, []list{l}, 4, true, 2, []list{{l[0], l[5]}, {l[7]}})
	runs(t, []list{l}, 4, false, 3, []list{{l[0], l[3], l[5]}, {l[6], l[7]}})
	runs(t, []list{{dead("a", 1)}, {dead("b", 1)}}, 1, true, 1, nil)
	runs(t, []list{{dead("a", 1)}, {dead("b", 1)}}, 0, true, 1, []list{{dead("a", 1)}, {dead("b", 1)}})
}

// someEntries are entries that may be, no two of one key and number, keys of few letters with many numbers.
func someEntries(r *rand.Rand, many int) list {
	var l list
	there := map[string]bool{}
	for range many {
		key := ""
		for range 1 + r.Intn(3) {
			key += string("\x00ab\xff"[r.Intn(4)])
		}
		e := of(key, 1+r.Intn(20), strings.Repeat("v", r.Intn(20)))
		if r.Intn(3) == 0 {
			e = dead(key, e.Seq)
		}
		if place := fmt.Sprintf("%q %d", key, e.Seq); !there[place] {
			there[place] = true
			l = append(l, e)
		}
	}
	return l
}

// Long lists, few and many: and from the mark on the pieces show what the lists do.
func TestRunOfLongLists(t *testing.T) {
	r := rand.New(rand.NewSource(17))
	for n := range 300 {
		entries := someEntries(r, r.Intn(300))
		lists := make([]list, 1+r.Intn(9))
		for _, e := range entries {
			to := r.Intn(len(lists))
			lists[to] = append(lists[to], e)
		}
		for i, l := range lists {
			lists[i] = sorted(l)
		}
		all, mark, bottom, size := sorted(entries), r.Intn(23)-1, n%2 > 0, 1+r.Intn(40)
		runs(t, lists, mark, bottom, size, inPieces(needed(all, mark, bottom), size))
		pieces, _ := compact.Run(lists, mark, bottom, size)
		for seq := mark; seq <= 22; seq++ {
			sameSeen(t, slices.Concat(pieces...), all, seq)
		}
	}
}

func sameSeen(t *testing.T, x, y list, seq int) {
	t.Helper()
	got, errno := merge.Visible(x, seq)
	is(t, "Visible", errno, api.OK)
	want, errno := merge.Visible(y, seq)
	is(t, "Visible", errno, api.OK)
	if fmt.Sprint(got) != fmt.Sprint(want) {
		t.Fatalf("seen at %d: %.500v, not %.500v", seq, got, want)
	}
}

// A size below 1 is told ahead of all else, then what may not be or isn't in order, then what is there twice (R2); where all of it would be forgotten, too.
func TestRunRefuses(t *testing.T) {
	fine, twice := []list{{of("a", 1, "")}}, []list{{of("a", 1, "")}, {dead("a", 1)}}
	bad := [][]list{
		{{of("", 1, "")}}, {{of("a", 0, "")}}, {{of("a", 1<<40+1, "")}}, {{of(strings.Repeat("k", 201), 1, "")}}, {{of("a", 1, strings.Repeat("v", 4097))}},
		{{api.Entry{Key: []byte("a"), Seq: 1, Dead: true, Value: []byte("v")}}},
		{{of("b", 1, ""), of("a", 1, "")}}, {{of("a", 1, ""), of("a", 2, "")}}, {{of("a", 1, ""), of("a", 1, "")}}, {nil, {of("a", 2, "")}, {of("b", 1, ""), of("a", 1, "")}},
	}
	for _, size := range []int{0, -1, -4096, math.MinInt} {
		for _, lists := range append(bad, nil, fine, twice) {
			refuses(t, lists, size, api.ErrRange)
		}
	}
	for _, size := range someSizes {
		refuses(t, twice, size, api.ErrTwice)
		refuses(t, []list{fine[0], nil, fine[0]}, size, api.ErrTwice)
		for _, lists := range bad {
			refuses(t, lists, size, api.ErrKey)
			refuses(t, slices.Concat(lists, twice), size, api.ErrKey)
			refuses(t, slices.Concat(twice, lists), size, api.ErrKey)
		}
	}
}

func TestRunOfNothing(t *testing.T) {
	for _, lists := range [][]list{nil, {}, {nil}, {{}, nil, {}}} {
		for _, mark := range someSeqs {
			for _, size := range someSizes {
				runs(t, lists, mark, false, size, nil)
				runs(t, lists, mark, true, size, nil)
			}
		}
	}
}

// At the bounds of what may be it answers.
func TestRunAtTheBounds(t *testing.T) {
	key, value := strings.Repeat("k", 200), strings.Repeat("v", 4096)
	l := list{of("\x00", 1, ""), of(key, 1<<40, value), dead(key, 1<<40-1), of(key, 1, value)}
	runs(t, []list{l[1:2], l[2:], l[:1]}, 0, true, 1, []list{l[:1], l[1:]})
	runs(t, []list{l}, 1<<40-1, false, 1, []list{l[:1], l[1:3]})
	runs(t, []list{l}, 1<<40-1, true, 1, []list{l[:1], l[1:2]})
	runs(t, []list{l}, 1<<40, true, 1, []list{l[:1], l[1:2]})
}

// Many entries, of as many keys or of one: it ends soon.
func TestRunOfManyEntries(t *testing.T) {
	const many = 100000
	var one, keys list
	for n := range many {
		one = append(one, of("k", many-n, ""))
		keys = append(keys, of(fmt.Sprintf("%06d", n), 1, ""))
	}
	runs(t, []list{one}, 0, true, 7, []list{one})
	runs(t, []list{one}, many, true, 7, []list{one[:1]})
	runs(t, []list{keys}, 1, true, 1000, slices.Collect(slices.Chunk(keys, 1000)))
	pieces, errno := compact.Run([]list{keys[many/2:], keys[:many/2]}, 1, true, 1)
	if is(t, "Run", errno, api.OK); len(pieces) != many {
		t.Fatalf("%d pieces", len(pieces))
	}
}
