package compact_test

import (
	"bytes"
	"fmt"
	"slices"
	"testing"

	"usance/api"
	"usance/compact"
)

// spoil writes over the whole list, its spare room too.
func spoil(b []byte) {
	b = b[:cap(b)]
	for i := range b {
		b[i] = '#'
	}
}

func someList() list {
	return list{of("a", 3, "one"), dead("a", 2), of("a", 1, "two"), dead("b", 3), of("b", 1, "more"), of("c", 2, "rest"), of("d", 4, "end")}
}

// wide are the entries with keys and values that lie one behind the other in one memory, each with the rest as its spare room, and a list with spare room.
func wide(l list) (list, []byte) {
	var all []byte
	for _, e := range l {
		all = append(all, string(e.Key)+string(e.Value)...)
	}
	all = append(all, "spare room"...)
	entries := append(slices.Clone(l), of("spare", 7, "room"))[:len(l)]
	at := 0
	for i, e := range l {
		middle := at + len(e.Key)
		end := middle + len(e.Value)
		entries[i].Key, entries[i].Value = all[at:middle], all[middle:end]
		at = end
	}
	return entries, all
}

// What is handed in to Run stays as it is, spare room included, and isn't kept (R4).
func TestRunLeavesWhatIsHandedIn(t *testing.T) {
	for mark := -1; mark <= 4; mark++ {
		for size := 1; size <= 8; size++ {
			entries, all := wide(someList())
			lists := []list{entries[3:], entries[:2], nil, entries[2:3], {of("", 0, "")}}
			keptBytes, kept, keptLists := bytes.Clone(all), tellPieces([]list{entries[:cap(entries)]}), tellPieces(lists)
			want := tellPieces(inPieces(needed(someList(), mark, true), size))
			pieces, errno := compact.Run(lists[:4], mark, true, size)
			is(t, "Run", errno, api.OK)
			if !bytes.Equal(all, keptBytes) || !slices.Equal(tellPieces([]list{entries[:cap(entries)]}), kept) || !slices.Equal(tellPieces(lists), keptLists) {
				t.Fatalf("what was handed in became %q, %v, %v", all, entries, lists)
			}
			spoil(all)
			clear(entries)
			clear(lists)
			if !slices.Equal(tellPieces(pieces), want) {
				t.Fatalf("what was answered became %q, not %q", tellPieces(pieces), want)
			}
		}
	}
}

// What Run answers is nobody else's: it shares no memory with what was handed in, an earlier answer or its own other pieces, spare room included.
func TestPiecesAreNewMemory(t *testing.T) {
	for mark := -1; mark <= 4; mark++ {
		for size := 1; size <= 8; size++ {
			entries, all := wide(someList())
			kept := bytes.Clone(all)
			first, _ := compact.Run([]list{entries}, mark, false, size)
			second, _ := compact.Run([]list{entries}, mark, false, size)
			want := tellPieces(second)
			pieces := append(first, second...)
			for i, piece := range pieces {
				for k, e := range piece {
					value, rest := string(e.Value), tellPieces([]list{piece[k+1:]})
					if spoil(e.Key); string(e.Value) != value {
						t.Fatalf("with its key a value became %q", e.Value)
					}
					if spoil(e.Value); !slices.Equal(tellPieces([]list{piece[k+1:]}), rest) {
						t.Fatalf("with an entry those behind it became %v", piece[k+1:])
					}
				}
				rest := tellPieces(pieces[i+1:])
				clear(piece[:cap(piece)])
				if !slices.Equal(tellPieces(pieces[i+1:]), rest) {
					t.Fatalf("with piece %d those behind it became %q", i, tellPieces(pieces[i+1:]))
				}
			}
			third, _ := compact.Run([]list{entries}, mark, false, size)
			if !bytes.Equal(all, kept) || !slices.Equal(tellPieces(third), want) {
				t.Fatalf("with the answers what was handed in became %q", all)
			}
		}
	}
}

// A piece grows without being seen in another one.
func TestPiecesGrow(t *testing.T) {
	pieces, _ := compact.Run([]list{someList()}, 0, false, 1)
	want := tellPieces(pieces)
	for i := range pieces {
		_ = append(pieces[i], of("grown", 1, "grown"), of("more", 1, "more"))
	}
	if !slices.Equal(tellPieces(pieces), want) || len(pieces) != 4 {
		t.Errorf("%q, not %q", tellPieces(pieces), want)
	}
}

// What is handed in to Pick, Bottom and Check stays as it is, and what Pick answers is new.
func TestVersionsStay(t *testing.T) {
	tables := []api.Table{table(9, 0, "c", "d"), table(4, 1, "d", "e"), table(2, 0, "a", "b"), table(3, 2, "e", "f"), table(1, 1, "x", "y"), table(7, 3, "a", "a")}
	v := api.Version{Tables: tables[:5], Log: 3, Seq: 8, Next: 10}
	ids := []int{9, 4, 2, 9, 1, 77}
	heights := []int{3, 2, 1, 9}
	kept := fmt.Sprint(v, tables, ids, heights)
	for range 3 {
		picks(t, v, 2, []int{2, 4, 9}, 1)
		picks(t, api.Version{Tables: tables[1:5]}, 2, []int{1}, 2)
		isBottom(t, v, ids[:5], 1, false)
		isBottom(t, v, ids[:1], 1, true)
		is(t, "Check", compact.Check(api.Options{Mem: 1, Size: 1, Block: 1, Fan: 2, Heights: heights[:3]}), api.OK)
		got, _, _ := compact.Pick(v, 2)
		clear(got[:cap(got)])
		if now := fmt.Sprint(v, tables, ids, heights); now != kept {
			t.Fatalf("what was handed in became %s, not %s", now, kept)
		}
	}
}

// The same call answers the same (R5).
func TestAgain(t *testing.T) {
	first, _ := compact.Run([]list{someList()[2:], someList()[:2]}, 2, true, 2)
	for range 100 {
		again, _ := compact.Run([]list{someList()[2:], someList()[:2]}, 2, true, 2)
		if !slices.Equal(tellPieces(again), tellPieces(first)) {
			t.Fatalf("%q, then %q", tellPieces(first), tellPieces(again))
		}
	}
}
