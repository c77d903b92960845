package table_test

import (
	"slices"
	"testing"

	"usance/api"
	"usance/table"
	"usance/vdisk"
)

// Behind a crash at any change, with any of the bytes that weren't synced, no file stands, or one that is whole, or one that Open answers ErrCorrupt for; what was answered OK is whole.
func TestCrashes(t *testing.T) {
	l := list("a3=x", "a2!", "b1=yz", "c2")
	whole := len(bytesOf(t, l, 2))
	seen := map[api.Errno]int{}
	for ops := range 4 {
		for keep := range whole + 1 {
			d := vdisk.New(api.Plan{Ops: ops, Room: -1, Keep: []int{keep}})
			answered := table.Write(d, "t", asEntries(l), 2)
			if want := api.ErrCrashed; ops < 2 {
				is(t, "Write", answered, want)
			} else {
				is(t, "Write", answered, api.OK)
			}
			d.Revive(never)
			x, errno := table.Open(d, "t")
			seen[errno]++
			switch {
			case errno == api.OK:
				hasEntries(t, x, l, "", "")
				hasBounds(t, x, l)
			case answered == api.OK || errno != api.ErrNoFile && errno != api.ErrCorrupt:
				t.Fatalf("Open behind %d changes with %d bytes: %d", ops, keep, errno)
			}
		}
	}
	// Ahead of the first change nothing, ahead of the second one a part or all, and then all.
	if seen[api.ErrNoFile] != whole+1 || seen[api.ErrCorrupt] != whole || seen[api.OK] != 2*whole+3 {
		t.Errorf("answered: %v", seen)
	}
}

// Where there is no room, no file stands; where there is just enough, all of it.
func TestRoom(t *testing.T) {
	l := list("a3=x", "a2!", "b1=yz", "c2")
	whole := len(bytesOf(t, l, 2))
	for room := range whole + 3 {
		d := vdisk.New(api.Plan{Ops: -1, Room: room})
		errno := table.Write(d, "t", asEntries(l), 2)
		if room >= whole {
			is(t, "Write", errno, api.OK)
			hasEntries(t, open(t, d, "t"), l, "", "")
			continue
		}
		is(t, "Write", errno, api.ErrFull)
		_, errno = table.Open(d, "t")
		if errno != api.ErrNoFile && errno != api.ErrCorrupt {
			t.Errorf("Open: %d", errno)
		}
	}
}

// What was written lasts without anybody's syncing it.
func TestWrittenIsSynced(t *testing.T) {
	for block := 1; block < 5; block++ {
		l := list("a3=x", "a2!", "b1=yz", "c2")
		d := vdisk.New(never)
		is(t, "Write", table.Write(d, "t", asEntries(l), block), api.OK)
		for _, f := range d.Dump() {
			if f.Synced != len(f.Data) {
				t.Errorf("of %d bytes %d are synced", len(f.Data), f.Synced)
			}
		}
		d.Revive(never)
		hasEntries(t, open(t, d, "t"), l, "", "")
	}
}

// A table that was opened answers though the disk has crashed since.
func TestTableOutlivesCrash(t *testing.T) {
	l := list("a3=x", "a2!", "b1=yz", "c2")
	d := vdisk.New(api.Plan{Ops: 2, Room: -1})
	is(t, "Write", table.Write(d, "t", asEntries(l), 2), api.OK)
	x := open(t, d, "t")
	is(t, "Delete", d.Delete("t"), api.ErrCrashed)
	hasEntries(t, x, l, "", "")
	hasLast(t, x, l, "a", 2)
}

// Tables share a disk with one another and with other files, and nothing else.
func TestTablesAreApart(t *testing.T) {
	d := vdisk.New(never)
	d.Append("other", []byte("other"))
	lists := map[string][]version{"a": list("a1=x"), "b": list("a2=y", "b1"), "c": list("a1=z")}
	for _, name := range []string{"b", "a", "c"} {
		is(t, "Write", table.Write(d, name, asEntries(lists[name]), 1), api.OK)
	}
	for name, l := range lists {
		hasEntries(t, open(t, d, name), l, "", "")
	}
	names, _ := d.List()
	if !slices.Equal(names, []string{"a", "b", "c", "other"}) {
		t.Errorf("files %q", names)
	}
}
