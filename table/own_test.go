package table_test

import (
	"bytes"
	"slices"
	"testing"

	"usance/api"
	"usance/table"
	"usance/vdisk"
)

// spoil writes over the whole list, its spare room too.
func spoil(b []byte) {
	b = b[:cap(b)]
	for i := range b {
		b[i] = 'x'
	}
}

func spoilEntry(e api.Entry) {
	spoil(e.Key)
	spoil(e.Value)
}

func someList() []version {
	return list("a3=one", "a2!", "a1=two", "b3!", "b1=more", "c2=rest")
}

// wide are the entries with keys and values that lie one behind the other in one memory, each with the rest as its spare room.
func wide(l []version) ([]api.Entry, []byte) {
	var all []byte
	for _, v := range l {
		all = append(all, v.key+v.value...)
	}
	all = append(all, "spare room"...)
	entries := asEntries(l)
	at := 0
	for i, v := range l {
		middle := at + len(v.key)
		end := middle + len(v.value)
		entries[i].Key, entries[i].Value = all[at:middle], all[middle:end]
		at = end
	}
	return entries, all
}

func asVersions(entries []api.Entry) []version {
	var l []version
	for _, e := range entries {
		l = append(l, asVersion(e))
	}
	return l
}

// What is handed in stays as it is, spare room included, and isn't kept (R4).
func TestEntriesAreNotKept(t *testing.T) {
	l := someList()
	for n := 1; n <= len(l); n++ {
		for block := 1; block <= n; block++ {
			entries, all := wide(l)
			kept := bytes.Clone(all)
			d := vdisk.New(never)
			is(t, "Write", table.Write(d, "t", entries[:n], block), api.OK)
			if !bytes.Equal(all, kept) || !slices.Equal(asVersions(entries), l) {
				t.Fatalf("what was handed in became %q, %v", all, entries)
			}
			spoil(all)
			hasEntries(t, open(t, d, "t"), l[:n], "", "")
		}
	}
}

// Nor is what is asked for: bounds that are spoilt behind the call don't count.
func TestAskedIsNotKept(t *testing.T) {
	l := someList()
	x := tableOf(t, l, 2)
	key := []byte("b  ")
	x.Get(key[:1], 3)
	lo, hi := []byte("az")[:1], []byte("cz")[:1]
	entries := x.Entries(lo, hi)
	spoil(key)
	if string(lo[:2]) != "az" || string(hi[:2]) != "cz" {
		t.Errorf("what was handed in became %q, %q", lo[:2], hi[:2])
	}
	spoil(lo)
	spoil(hi)
	for range 2 {
		var got []version
		for e := range entries {
			got = append(got, asVersion(e))
		}
		if !slices.Equal(got, l[:5]) {
			t.Errorf("Entries: %v", got)
		}
	}
	hasLast(t, x, l, "b", 3)
}

// What is answered is nobody else's: no two lists of it share memory, nor does one with the table or with an earlier answer (R4).
func TestAnswersAreNewMemory(t *testing.T) {
	l := someList()
	for block := 1; block <= len(l); block++ {
		x := tableOf(t, l, block)
		lo, hi := x.Bounds()
		spoil(lo)
		if string(hi) != "c" {
			t.Errorf("the greatest key became %q", hi)
		}
		spoil(hi)
		hasBounds(t, x, l)
		var all []api.Entry
		for e := range x.Entries(nil, nil) {
			all = append(all, e)
		}
		for i, e := range all {
			first, _, _ := x.Get([]byte(l[i].key), l[i].seq)
			second, _, _ := x.Get([]byte(l[i].key), l[i].seq)
			spoil(first.Key)
			if string(first.Value) != l[i].value {
				t.Errorf("with its key a value became %q", first.Value)
			}
			spoil(first.Value)
			if asVersion(second) != l[i] {
				t.Errorf("an answer became %v", second)
			}
			spoilEntry(second)
			spoil(e.Key)
			if string(e.Value) != l[i].value || !slices.Equal(asVersions(all[i+1:]), l[i+1:]) {
				t.Fatalf("with key %d the rest became %v", i, all)
			}
			spoil(e.Value)
			if !slices.Equal(asVersions(all[i+1:]), l[i+1:]) {
				t.Fatalf("with value %d the rest became %v", i, all)
			}
		}
		hasEntries(t, x, l, "", "")
		for e := range x.Entries(nil, nil) {
			spoilEntry(e)
		}
		hasEntries(t, x, l, "", "")
		hasBounds(t, x, l)
	}
}

// A table's answers hang on nothing but its file (R5): not on what was asked ahead, nor on another table of it.
func TestTablesOfOneFile(t *testing.T) {
	l := someList()
	d := vdisk.New(never)
	is(t, "Write", table.Write(d, "t", asEntries(l), 2), api.OK)
	first, second := open(t, d, "t"), open(t, d, "t")
	for e := range first.Entries(nil, nil) {
		spoilEntry(e)
	}
	hasEntries(t, second, l, "", "")
	hasEntries(t, first, l, "", "")
	b, _ := d.Read("t")
	again := bytesOf(t, l, 2)
	if !bytes.Equal(b, again) {
		t.Error("the same entries make another file")
	}
}
