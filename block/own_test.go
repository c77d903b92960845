package block_test

import (
	"bytes"
	"slices"
	"testing"

	"usance/api"
	"usance/block"
)

// spoil writes over the whole list, its spare room too.
func spoil(b []byte) {
	b = b[:cap(b)]
	for i := range b {
		b[i] = 99
	}
}

func someList() []pair {
	return []pair{{"a", "one"}, {"ab", ""}, {"abc", "a longer value, and more"}, {"abd", "d"}, {"b", ""}, {"ba", "e"}}
}

// wide are the pairs with keys and values that lie one behind the other in one memory, each with the rest as its spare room.
func wide(list []pair) ([]api.Pair, []byte) {
	var all []byte
	for _, p := range list {
		all = append(all, p.key+p.value...)
	}
	all = append(all, "spare room"...)
	var pairs []api.Pair
	at := 0
	for _, p := range list {
		middle := at + len(p.key)
		end := middle + len(p.value)
		pairs = append(pairs, api.Pair{Key: all[at:middle], Value: all[middle:end]})
		at = end
	}
	return pairs, all
}

// What is handed in stays as it is, spare room included, and isn't kept; what is answered is nobody else's (R4, R5).
func TestBuiltIsNewMemory(t *testing.T) {
	for n := range len(someList()) + 1 {
		list := someList()[:n]
		pairs, all := wide(someList())
		kept := bytes.Clone(all)
		want := formOf(list)
		first, _ := block.Build(pairs[:n])
		second, _ := block.Build(pairs[:n])
		spoil(first)
		if !bytes.Equal(all, kept) || !slices.Equal(asTexts(pairs), someList()) {
			t.Errorf("what was handed in became %q", all)
		}
		if third, _ := block.Build(pairs[:n]); !bytes.Equal(third, want) {
			t.Errorf("behind an answer that was spoilt stands %q, not %q", third, want)
		}
		spoil(all)
		if !bytes.Equal(second, want) {
			t.Errorf("an answer %q became %q", want, second)
		}
	}
}

// A refusal changes nothing of what is handed in either.
func TestRefusedStaysAsItIs(t *testing.T) {
	for _, list := range [][]pair{row("b", "a"), row("a", ""), row("a", "b", string(make([]byte, 201)))} {
		pairs, all := wide(list)
		kept := bytes.Clone(all)
		block.Build(pairs)
		if !bytes.Equal(all, kept) || !slices.Equal(asTexts(pairs), list) {
			t.Errorf("what was handed in became %q", all)
		}
	}
}

// No two lists of an answer share memory, nor does one with the block or another answer.
func TestPairsAreNewMemory(t *testing.T) {
	list := someList()
	whole := append(formOf(list), "spare room"...)
	kept := bytes.Clone(whole)
	b := whole[:len(whole)-10]
	first, _ := block.Read(b)
	second, _ := block.Read(b)
	for i := range first {
		spoil(first[i].Key)
		if string(first[i].Value) != list[i].value {
			t.Fatalf("with its key the value %d became %q", i, first[i].Value)
		}
		spoil(first[i].Value)
		if !bytes.Equal(whole, kept) {
			t.Fatalf("with pair %d what was read became %q", i, whole)
		}
		if !slices.Equal(asTexts(first[i+1:]), list[i+1:]) {
			t.Fatalf("with pair %d those behind it became %q", i, asTexts(first[i+1:]))
		}
	}
	first = first[:cap(first)]
	for i := range first {
		first[i] = api.Pair{Key: []byte("x"), Value: []byte("x")}
	}
	spoil(whole)
	if !slices.Equal(asTexts(second), list) {
		t.Errorf("an answer became %q", asTexts(second))
	}
	if third, errno := block.Read(kept[:len(b)]); !slices.Equal(asTexts(third), list) || errno != api.OK {
		t.Errorf("behind an answer that was spoilt stands %q %d", asTexts(third), errno)
	}
}

func TestFoundIsNewMemory(t *testing.T) {
	for _, p := range someList() {
		whole := append(formOf(someList()), "spare room"...)
		kept := bytes.Clone(whole)
		b := whole[:len(whole)-10]
		key := append([]byte(p.key), "spare room"...)
		first, _, _ := block.Find(b, key[:len(p.key)])
		second, _, _ := block.Find(b, key[:len(p.key)])
		spoil(first)
		if !bytes.Equal(whole, kept) || string(key) != p.key+"spare room" {
			t.Errorf("what was handed in became %q, %q", whole, key)
		}
		if third, ok, errno := block.Find(b, key[:len(p.key)]); string(third) != p.value || !ok || errno != api.OK {
			t.Errorf("behind an answer that was spoilt stands %q %v %d", third, ok, errno)
		}
		spoil(whole)
		spoil(key)
		if string(second) != p.value {
			t.Errorf("an answer %q became %q", p.value, second)
		}
	}
}

// Bytes in the spare room are not read: the block ends where it ends.
func TestSpareRoomIsNotRead(t *testing.T) {
	whole := formOf(someList())
	for n := range whole {
		got, errno := block.Read(whole[:n])
		if want, refusal := read(bytes.Clone(whole[:n])); !slices.Equal(asTexts(got), want) || errno != refusal {
			t.Errorf("Read of %d bytes = %q %d, not %q %d", n, asTexts(got), errno, want, refusal)
		}
	}
}
