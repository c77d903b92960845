package merge_test

import (
	"bytes"
	"slices"
	"testing"

	"usance/api"
	"usance/merge"
)

// spoil writes over the whole list, its spare room too.
func spoil(b []byte) {
	b = b[:cap(b)]
	for i := range b {
		b[i] = '#'
	}
}

func someList() list {
	return list{of("a", 3, "one"), dead("a", 2), of("a", 1, "two"), dead("b", 3), of("b", 1, "more"), of("c", 2, "rest")}
}

// wide are the entries with keys and values that lie one behind the other in one memory, each with the rest as its spare room, and a list with spare room.
func wide(l list) (list, []byte) {
	var all []byte
	for _, e := range l {
		all = append(all, string(e.Key)+string(e.Value)...)
	}
	all = append(all, "spare room"...)
	entries := append(slices.Clone(l), of("spare", 7, "room"))[:len(l)]
	at := 0
	for i, e := range l {
		middle := at + len(e.Key)
		end := middle + len(e.Value)
		entries[i].Key, entries[i].Value = all[at:middle], all[middle:end]
		at = end
	}
	return entries, all
}

// calls are all calls that answer entries; of pairs, entries without a number.
func calls() map[string]func(list) list {
	return map[string]func(list) list{
		"Merge": func(l list) list {
			merged, _ := merge.Merge([]list{l[4:], l[:2], nil, l[2:4]})
			return merged
		},
		"Merge of one": func(l list) list {
			merged, _ := merge.Merge([]list{l})
			return merged
		},
		"Visible": func(l list) list {
			pairs, _ := merge.Visible(l, 2)
			return ofPairs(pairs)
		},
		"Thin, none left out": func(l list) list {
			thin, _ := merge.Thin(l, 0, true)
			return thin
		},
		"Thin": func(l list) list {
			thin, _ := merge.Thin(l, 2, false)
			return thin
		},
	}
}

func ofPairs(pairs []api.Pair) list {
	var l list
	for _, p := range pairs {
		l = append(l, api.Entry{Key: p.Key, Value: p.Value})
	}
	return l
}

// What is handed in stays as it is, spare room included, and isn't kept (R4).
func TestHandedInStays(t *testing.T) {
	for name, call := range calls() {
		entries, all := wide(someList())
		keptBytes, kept := bytes.Clone(all), tellAll(entries[:len(entries)+1])
		want := tellAll(call(someList()))
		got := call(entries)
		if !bytes.Equal(all, keptBytes) || !slices.Equal(tellAll(entries[:len(entries)+1]), kept) {
			t.Errorf("%s: what was handed in became %q, %v", name, all, entries)
		}
		spoil(all)
		clear(entries)
		if !slices.Equal(tellAll(got), want) || len(want) == 0 {
			t.Errorf("%s: what was answered became %q, not %q", name, tellAll(got), want)
		}
	}
}

// Nor is the list of lists changed, where the lists are gone through and where that is broken off.
func TestListsStay(t *testing.T) {
	l := someList()
	for _, lists := range [][]list{{l[3:], l[:1], nil, l[1:3]}, {l, l}, {l, {of("", 1, "")}}} {
		whole := append(slices.Clone(lists), l[:2])
		merge.Merge(whole[:len(lists)])
		for i, want := range append(slices.Clone(lists), l[:2]) {
			if !slices.Equal(tellAll(whole[i]), tellAll(want)) {
				t.Errorf("list %d became %v", i, whole[i])
			}
		}
	}
}

// What is answered is nobody else's: it shares no memory with what was handed in, an earlier answer, or its own other lists (R4).
func TestAnswersAreNewMemory(t *testing.T) {
	for name, call := range calls() {
		entries, all := wide(someList())
		kept := bytes.Clone(all)
		answers := append(call(entries), call(entries)...)
		for i, e := range answers {
			want := told(e)
			spoil(e.Key[len(e.Key):])
			spoil(e.Value[len(e.Value):])
			if told(e) != want {
				t.Fatalf("%s: with its spare room answer %d became %s", name, i, told(e))
			}
			value, rest := string(e.Value), tellAll(answers[i+1:])
			spoil(e.Key)
			if string(e.Value) != value {
				t.Fatalf("%s: with its key the value of answer %d became %q", name, i, e.Value)
			}
			spoil(e.Value)
			if !slices.Equal(tellAll(answers[i+1:]), rest) {
				t.Fatalf("%s: with answer %d those behind it became %q", name, i, tellAll(answers[i+1:]))
			}
		}
		if !bytes.Equal(all, kept) {
			t.Errorf("%s: with its answers what was handed in became %q", name, all)
		}
		first := call(entries)
		clear(first[:cap(first)])
		if !slices.Equal(tellAll(entries), tellAll(someList())) {
			t.Errorf("%s: with its answer the list that was handed in became %v", name, entries)
		}
	}
}

// Keys and values that share memory when they are handed in don't when they are answered.
func TestSharedMemory(t *testing.T) {
	b := []byte("bb")
	l := list{{Key: b[:1], Seq: 2, Value: b}, {Key: b[:1], Seq: 1, Value: b}, {Key: b, Seq: 1, Value: b[:1]}}
	merged, _ := merge.Merge([]list{l[1:], l[:1]})
	thin, _ := merge.Thin(l, 0, true)
	pairs, _ := merge.Visible(l, 1)
	for _, answer := range []list{merged, thin, ofPairs(pairs)} {
		for i, e := range answer {
			value, rest := string(e.Value), tellAll(answer[i+1:])
			spoil(e.Key)
			if string(e.Value) != value || !slices.Equal(tellAll(answer[i+1:]), rest) {
				t.Errorf("with key %d became %v", i, tellAll(answer))
			}
			spoil(e.Value)
			if !slices.Equal(tellAll(answer[i+1:]), rest) {
				t.Errorf("with value %d became %v", i, tellAll(answer))
			}
		}
	}
	if string(b) != "bb" {
		t.Errorf("what was handed in became %q", b)
	}
}

// The same call answers the same (R5), and what is thinned stays as it is when it is thinned again.
func TestAgain(t *testing.T) {
	for name, call := range calls() {
		if x, y := call(someList()), call(someList()); !slices.Equal(tellAll(x), tellAll(y)) {
			t.Errorf("%s: %q, then %q", name, tellAll(x), tellAll(y))
		}
	}
	for mark := -1; mark <= 4; mark++ {
		for _, bottom := range []bool{false, true} {
			once, _ := merge.Thin(someList(), mark, bottom)
			thins(t, once, mark, bottom, tellAll(once))
		}
	}
}
