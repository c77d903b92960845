package vdisk_test

import (
	"math"
	"slices"
	"strings"
	"testing"

	"usance/api"
	"usance/vdisk"
)

// changes are the four, by name, each of which may be done on a disk with the files a and b.
func changes(d *vdisk.Disk) map[string]func() api.Errno {
	return map[string]func() api.Errno{
		"Append":        func() api.Errno { return d.Append("a", []byte("x")) },
		"Append of new": func() api.Errno { return d.Append("c", []byte("x")) },
		"Append of no":  func() api.Errno { return d.Append("a", nil) },
		"Sync":          func() api.Errno { return d.Sync("a") },
		"Sync again":    func() api.Errno { return d.Sync("b") },
		"Rename":        func() api.Errno { return d.Rename("a", "b") },
		"Rename to one": func() api.Errno { return d.Rename("a", "a") },
		"Delete":        func() api.Errno { return d.Delete("a") },
	}
}

// crashed tells that the disk answers ErrCrashed to all but Revive and Dump, whatever else is wrong.
func crashed(t *testing.T, d *vdisk.Disk) {
	t.Helper()
	for _, name := range []string{"a", "none", "A", "", strings.Repeat("x", 33)} {
		is(t, "Append", d.Append(name, nil), api.ErrCrashed)
		is(t, "Append beyond the room", d.Append(name, make([]byte, 1000)), api.ErrCrashed)
		is(t, "Sync", d.Sync(name), api.ErrCrashed)
		is(t, "Rename from", d.Rename(name, "a"), api.ErrCrashed)
		is(t, "Rename to", d.Rename("a", name), api.ErrCrashed)
		is(t, "Delete", d.Delete(name), api.ErrCrashed)
		if b, errno := d.Read(name); len(b) > 0 || errno != api.ErrCrashed {
			t.Errorf("Read(%q): %q %d", name, b, errno)
		}
	}
	if l, errno := d.List(); len(l) > 0 || errno != api.ErrCrashed {
		t.Errorf("List: %v %d", l, errno)
	}
}

// Each change counts, and the one behind the last that is planned isn't done (words of the chapter).
func TestEachChangeCrashes(t *testing.T) {
	files := []api.File{file("a", "12", 1), file("b", "3", 1)}
	for what := range changes(nil) {
		for ops := range 4 {
			d := of(t, api.Plan{Ops: ops, Room: 99}, files...)
			for range ops {
				is(t, what+" ahead of the crash", d.Sync("b"), api.OK)
			}
			// When as many were done, it has not crashed yet.
			if b, errno := d.Read("a"); string(b) != "12" || errno != api.OK {
				t.Errorf("Read ahead of the crash: %q %d", b, errno)
			}
			is(t, what+" at the crash", changes(d)[what](), api.ErrCrashed)
			holds(t, d, files...)
			crashed(t, d)
			holds(t, d, files...)
		}
		d := of(t, api.Plan{Ops: 1, Room: 99}, files...)
		is(t, what, changes(d)[what](), api.OK)
		is(t, what+", and a change more", d.Append("z", nil), api.ErrCrashed)
	}
}

func TestBoundsOfOps(t *testing.T) {
	for _, ops := range []int{-1, -2, math.MinInt, math.MaxInt, 5001} {
		d := vdisk.New(api.Plan{Ops: ops, Room: -1})
		for range 5000 {
			is(t, "Append", d.Append("a", []byte("x")), api.OK)
		}
		is(t, "Sync", d.Sync("a"), api.OK)
		want := api.OK
		if ops == 5001 {
			want = api.ErrCrashed
		}
		is(t, "one more", d.Sync("a"), want)
	}
}

// What is refused is no change, nor is what only looks; and a change that may not be done is refused by its own error, not by the crash.
func TestRefusedIsNoChange(t *testing.T) {
	d := of(t, api.Plan{Ops: 2, Room: 3}, file("a", "12", 0))
	refused := func() {
		t.Helper()
		is(t, "Append to no name", d.Append("A", make([]byte, 9)), api.ErrFileName)
		is(t, "Append beyond the room", d.Append("a", []byte("345")), api.ErrFull)
		is(t, "Append of a new file beyond the room", d.Append("b", []byte("345")), api.ErrFull)
		is(t, "Sync of no name", d.Sync("A"), api.ErrFileName)
		is(t, "Sync of no file", d.Sync("b"), api.ErrNoFile)
		is(t, "Rename of no name", d.Rename("A", "b"), api.ErrFileName)
		is(t, "Rename of no file to no name", d.Rename("b", "A"), api.ErrFileName)
		is(t, "Rename of a file to no name", d.Rename("a", "A"), api.ErrFileName)
		is(t, "Rename of no file", d.Rename("b", "a"), api.ErrNoFile)
		is(t, "Delete of no name", d.Delete("A"), api.ErrFileName)
		is(t, "Delete of no file", d.Delete("b"), api.ErrNoFile)
		d.Read("a")
		d.Read("b")
		d.List()
		d.Dump()
	}
	refused()
	is(t, "first change", d.Sync("a"), api.OK)
	refused()
	is(t, "second change", d.Sync("a"), api.OK)
	refused()
	is(t, "third change", d.Sync("a"), api.ErrCrashed)
	crashed(t, d)
}

// The room is asked ahead of the crash.
func TestFullAheadOfCrash(t *testing.T) {
	d := vdisk.New(api.Plan{Ops: 0, Room: 1})
	is(t, "Append beyond the room", d.Append("a", []byte("12")), api.ErrFull)
	if l, errno := d.List(); len(l) > 0 || errno != api.OK {
		t.Errorf("List: %v %d", l, errno)
	}
	is(t, "Append", d.Append("a", []byte("1")), api.ErrCrashed)
	is(t, "Append beyond the room", d.Append("a", []byte("12")), api.ErrCrashed)
	holds(t, d)
}

// The chapter's examples.
func TestExamples(t *testing.T) {
	d := vdisk.New(api.Plan{Ops: -1, Room: -1, Keep: []int{1}})
	d.Append("a", []byte{1, 2, 3})
	d.Sync("a")
	d.Append("a", []byte{4, 5})
	is(t, "Revive", d.Revive(never), api.OK)
	if b, errno := d.Read("a"); !slices.Equal(b, []byte{1, 2, 3, 4}) || errno != api.OK {
		t.Errorf("Read: %v %d", b, errno)
	}
	d = vdisk.New(api.Plan{Ops: 1, Room: -1})
	is(t, "first change", d.Append("a", nil), api.OK)
	is(t, "second change", d.Append("a", nil), api.ErrCrashed)
}

// keeps is how many of so many bytes are left: the number in the plan, so many and one more taken from it or put to it till it fits.
func keeps(number, most int) int {
	for number < 0 {
		number += most + 1
	}
	for number > most {
		number -= most + 1
	}
	return number
}

func TestKeep(t *testing.T) {
	const firm, loose = "abc", "defghij"
	for most := range len(loose) + 1 {
		for number := -30; number <= 30; number++ {
			d := of(t, api.Plan{Ops: -1, Room: -1, Keep: []int{number}}, file("a", firm+loose[:most], len(firm)))
			is(t, "Revive", d.Revive(never), api.OK)
			left := len(firm) + keeps(number, most)
			holds(t, d, file("a", (firm + loose)[:left], left))
		}
	}
	for _, number := range []int{math.MinInt, math.MinInt + 1, math.MaxInt, math.MaxInt - 1} {
		for most := 1; most <= len(loose); most++ {
			d := of(t, api.Plan{Keep: []int{number}}, file("a", loose[:most], 0))
			d.Revive(never)
			ways := most + 1
			left := (number%ways + ways) % ways
			holds(t, d, file("a", loose[:left], left))
		}
	}
}

// Only files with bytes that aren't synced have a number, by the order of their names, not that in which they came.
func TestKeepIsByNames(t *testing.T) {
	for _, keep := range [][]int{nil, {1}, {1, 2}, {0, 2}, {3, 1, 2}, {3, 1, 2, 9}, {-1, -1, -1}} {
		d := vdisk.New(api.Plan{Ops: -1, Room: -1, Keep: keep})
		d.Append("d", []byte("789"))
		d.Append("b", []byte("456"))
		d.Append("f", []byte("0"))
		d.Sync("f")
		d.Append("a", []byte("0"))
		d.Sync("a")
		d.Append("c", nil)
		d.Append("e", []byte("123"))
		d.Rename("e", "aa")
		is(t, "Revive", d.Revive(never), api.OK)
		var left [3]int
		for i := range left {
			if i < len(keep) {
				left[i] = keeps(keep[i], 3)
			}
		}
		holds(t, d, file("a", "0", 1), file("aa", "123"[:left[0]], left[0]), file("b", "456"[:left[1]], left[1]), file("c", "", 0), file("d", "789"[:left[2]], left[2]), file("f", "0", 1))
	}
}

// A disk that is revived is a new beginning: the new plan counts from there, and its Keep for the next time.
func TestReviveBeginsAnew(t *testing.T) {
	d := vdisk.New(api.Plan{Ops: 1, Room: 3, Keep: []int{1}})
	is(t, "Append", d.Append("a", []byte("123")), api.OK)
	is(t, "Append", d.Append("a", []byte("1")), api.ErrFull)
	is(t, "Sync", d.Sync("a"), api.ErrCrashed)
	holds(t, d, file("a", "123", 0))
	is(t, "Revive", d.Revive(api.Plan{Ops: 2, Room: 9, Keep: []int{3}}), api.OK)
	holds(t, d, file("a", "1", 1))
	is(t, "Append", d.Append("a", []byte("456789")), api.OK)
	is(t, "Append", d.Append("a", []byte("012")), api.ErrFull)
	is(t, "Append", d.Append("b", []byte("01")), api.OK)
	is(t, "Append", d.Append("b", nil), api.ErrCrashed)
	holds(t, d, file("a", "1456789", 1), file("b", "01", 0))
	is(t, "Revive", d.Revive(api.Plan{Ops: 0, Room: -1, Keep: []int{9}}), api.OK)
	holds(t, d, file("a", "1456", 4), file("b", "", 0))
	// Revived ahead of a crash, and with nothing that isn't synced.
	is(t, "Revive", d.Revive(api.Plan{Ops: 1, Room: -1}), api.OK)
	holds(t, d, file("a", "1456", 4), file("b", "", 0))
	is(t, "Append", d.Append("a", []byte("7")), api.OK)
	is(t, "Append", d.Append("a", []byte("8")), api.ErrCrashed)
	is(t, "Revive", d.Revive(never), api.OK)
	is(t, "Revive", d.Revive(never), api.OK)
	holds(t, d, file("a", "1456", 4), file("b", "", 0))
	// What was lost doesn't come back.
	is(t, "Append", d.Append("a", []byte("x")), api.OK)
	holds(t, d, file("a", "1456x", 4), file("b", "", 0))
}

// Names, files and what was deleted last at once; bytes only when they are synced.
func TestWhatLasts(t *testing.T) {
	d := of(t, api.Plan{Ops: -1, Room: -1}, file("a", "1", 1), file("b", "2", 1), file("c", "3", 1))
	d.Rename("a", "d")
	d.Delete("b")
	d.Append("e", []byte("45"))
	d.Append("c", []byte("6"))
	d.Append("f", []byte("7"))
	d.Sync("f")
	d.Append("f", []byte("8"))
	d.Rename("f", "g")
	d.Revive(never)
	holds(t, d, file("c", "3", 1), file("d", "1", 1), file("e", "", 0), file("g", "7", 1))
}
