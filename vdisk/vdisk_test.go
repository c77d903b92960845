package vdisk_test

import (
	"bytes"
	"fmt"
	"math"
	"slices"
	"strings"
	"testing"

	"usance/api"
	"usance/vdisk"
)

// never is the plan of a disk that neither crashes nor is full.
var never = api.Plan{Ops: -1, Room: -1}

// file is a file, written as text, of which the first so many bytes are synced.
func file(name, data string, synced int) api.File {
	return api.File{Name: name, Data: []byte(data), Synced: synced}
}

// told are files as a text; nil and empty bytes are alike in it.
func told(files []api.File) string {
	var b strings.Builder
	for _, f := range files {
		fmt.Fprintf(&b, "%s=%q/%d ", f.Name, f.Data, f.Synced)
	}
	return b.String()
}

// of is a disk of the files.
func of(t *testing.T, p api.Plan, files ...api.File) *vdisk.Disk {
	t.Helper()
	d, errno := vdisk.Of(files, p)
	if d == nil || errno != api.OK {
		t.Fatalf("Of(%s) = %v %d", told(files), d, errno)
	}
	return d
}

// holds tells that the disk has these files.
func holds(t *testing.T, d *vdisk.Disk, files ...api.File) {
	t.Helper()
	if got := told(d.Dump()); got != told(files) {
		t.Errorf("the disk has %s, not %s", got, told(files))
	}
}

// is tells that what was answered is as wanted.
func is(t *testing.T, what string, got, want api.Errno) {
	t.Helper()
	if got != want {
		t.Errorf("%s: %d, not %d", what, got, want)
	}
}

func TestNewDiskIsEmpty(t *testing.T) {
	for _, p := range []api.Plan{never, {}, {Ops: 3, Room: 9, Keep: []int{1, 2}}, {Ops: math.MinInt, Room: math.MinInt}, {Ops: math.MaxInt, Room: math.MaxInt}} {
		d := vdisk.New(p)
		holds(t, d)
		if l, errno := d.List(); len(l) > 0 || errno != api.OK {
			t.Errorf("List of a new disk: %v %d", l, errno)
		}
		if b, errno := d.Read("a"); len(b) > 0 || errno != api.ErrNoFile {
			t.Errorf("Read on a new disk: %v %d", b, errno)
		}
	}
}

func TestDiskOfFiles(t *testing.T) {
	d := of(t, never, file("c", "", 0), file("b", "12", 2), file("a.log", "345", 0), file("a", "6789", 3), file("0", "", 0), file("-", "x", 1), file(".", "y", 0))
	holds(t, d, file("-", "x", 1), file(".", "y", 0), file("0", "", 0), file("a", "6789", 3), file("a.log", "345", 0), file("b", "12", 2), file("c", "", 0))
	if l, errno := d.List(); !slices.Equal(l, []string{"-", ".", "0", "a", "a.log", "b", "c"}) || errno != api.OK {
		t.Errorf("List: %v %d", l, errno)
	}
	for name, want := range map[string]string{"a": "6789", "b": "12", "c": "", "a.log": "345"} {
		if b, errno := d.Read(name); string(b) != want || errno != api.OK {
			t.Errorf("Read(%s): %q %d, not %q", name, b, errno, want)
		}
	}
	holds(t, of(t, never))
}

func TestOfRefuses(t *testing.T) {
	for i, c := range []struct {
		files []api.File
		want  api.Errno
	}{
		{[]api.File{file("", "", 0)}, api.ErrFileName},
		{[]api.File{file("a", "", 0), file("B", "", 0)}, api.ErrFileName},
		{[]api.File{file("a", "", 0), file("a", "", 0)}, api.ErrTwice},
		{[]api.File{file("a", "", 0), file("b", "1", 1), file("c", "", 0), file("b", "", 0)}, api.ErrTwice},
		{[]api.File{file("a", "", -1)}, api.ErrRange},
		{[]api.File{file("a", "", 1)}, api.ErrRange},
		{[]api.File{file("a", "12", 3)}, api.ErrRange},
		{[]api.File{file("a", "12", 2), file("b", "1", 2)}, api.ErrRange},
		{[]api.File{file("a", "12", math.MinInt)}, api.ErrRange},
		{[]api.File{file("a", "12", math.MaxInt)}, api.ErrRange},
		// What is named first is answered, wherever it stands.
		{[]api.File{file("a", "", 0), file("a", "", 0), file("A", "", 0)}, api.ErrFileName},
		{[]api.File{file("a", "", 9), file("A", "", 0)}, api.ErrFileName},
		{[]api.File{file("A", "", 0), file("A", "", 9)}, api.ErrFileName},
		{[]api.File{file("a", "", 9), file("b", "", 0), file("b", "", 0)}, api.ErrTwice},
		{[]api.File{file("b", "", 0), file("b", "", -1)}, api.ErrTwice},
	} {
		if d, errno := vdisk.Of(c.files, never); d != nil || errno != c.want {
			t.Errorf("case %d: Of(%s) = %v %d, not %d", i, told(c.files), d, errno, c.want)
		}
	}
}

// Of asks no room: it is first asked when something is appended.
func TestOfAsksNoRoom(t *testing.T) {
	d := of(t, api.Plan{Ops: -1, Room: 2}, file("a", "123", 0))
	holds(t, d, file("a", "123", 0))
	is(t, "one byte more", d.Append("a", []byte{1}), api.ErrFull)
	is(t, "no byte more, where there are too many", d.Append("a", nil), api.ErrFull)
	is(t, "a file without bytes, where there are too many", d.Append("b", nil), api.ErrFull)
	holds(t, d, file("a", "123", 0))
}

// names are names at the bounds, and with each byte alone, ahead, between and behind.
func names() (may, mayNot []string) {
	for c := range 256 {
		list := []string{string([]byte{byte(c)}), string([]byte{byte(c), 'a'}), string([]byte{'a', byte(c), 'b'}), string([]byte{'a', byte(c)})}
		if strings.IndexByte("abcdefghijklmnopqrstuvwxyz0123456789.-", byte(c)) >= 0 {
			may = append(may, list...)
		} else {
			mayNot = append(mayNot, list...)
		}
	}
	may = append(may, "..", "w000001.log", strings.Repeat("z", 31), strings.Repeat("-", 32))
	mayNot = append(mayNot, "", strings.Repeat("z", 33), strings.Repeat("z", 64), strings.Repeat("a", 1<<20), "ä", "a b", "a/b", "日")
	return may, mayNot
}

func TestNames(t *testing.T) {
	may, mayNot := names()
	for _, name := range may {
		d := vdisk.New(never)
		is(t, "Append to "+name, d.Append(name, []byte("1")), api.OK)
		is(t, "Sync of "+name, d.Sync(name), api.OK)
		is(t, "Rename from "+name, d.Rename(name, "x"), api.OK)
		is(t, "Rename to "+name, d.Rename("x", name), api.OK)
		if b, errno := d.Read(name); string(b) != "1" || errno != api.OK {
			t.Errorf("Read(%q): %q %d", name, b, errno)
		}
		holds(t, d, file(name, "1", 1))
		holds(t, of(t, never, file(name, "1", 1)), file(name, "1", 1))
		is(t, "Delete of "+name, d.Delete(name), api.OK)
		holds(t, d)
	}
	for _, name := range mayNot {
		d := of(t, never, file("a", "1", 1))
		is(t, "Append", d.Append(name, nil), api.ErrFileName)
		is(t, "Sync", d.Sync(name), api.ErrFileName)
		is(t, "Rename from", d.Rename(name, "a"), api.ErrFileName)
		is(t, "Rename to", d.Rename("a", name), api.ErrFileName)
		is(t, "Rename from and to", d.Rename(name, name), api.ErrFileName)
		is(t, "Delete", d.Delete(name), api.ErrFileName)
		if b, errno := d.Read(name); len(b) > 0 || errno != api.ErrFileName {
			t.Errorf("Read(%.40q): %q %d", name, b, errno)
		}
		if got, errno := vdisk.Of([]api.File{file(name, "", 0)}, never); got != nil || errno != api.ErrFileName {
			t.Errorf("Of with %.40q: %v %d", name, got, errno)
		}
		holds(t, d, file("a", "1", 1))
	}
}

// What has no *Disk answers ErrNil, and so ahead of all else.
func TestNoDisk(t *testing.T) {
	var d *vdisk.Disk
	for _, name := range []string{"a", "A", ""} {
		is(t, "Append", d.Append(name, []byte{1}), api.ErrNil)
		is(t, "Sync", d.Sync(name), api.ErrNil)
		is(t, "Rename", d.Rename(name, "b"), api.ErrNil)
		is(t, "Rename", d.Rename("b", name), api.ErrNil)
		is(t, "Delete", d.Delete(name), api.ErrNil)
		if b, errno := d.Read(name); len(b) > 0 || errno != api.ErrNil {
			t.Errorf("Read: %v %d", b, errno)
		}
	}
	if l, errno := d.List(); len(l) > 0 || errno != api.ErrNil {
		t.Errorf("List: %v %d", l, errno)
	}
	is(t, "Revive", d.Revive(never), api.ErrNil)
	if l := d.Dump(); len(l) > 0 {
		t.Errorf("Dump: %v", l)
	}
}

func TestChanges(t *testing.T) {
	d := vdisk.New(never)
	is(t, "Append", d.Append("b", []byte("12")), api.OK)
	holds(t, d, file("b", "12", 0))
	is(t, "Append of nothing, to no file", d.Append("a", nil), api.OK)
	holds(t, d, file("a", "", 0), file("b", "12", 0))
	is(t, "Sync", d.Sync("b"), api.OK)
	holds(t, d, file("a", "", 0), file("b", "12", 2))
	is(t, "Append behind what is synced", d.Append("b", []byte("345")), api.OK)
	is(t, "Append of nothing", d.Append("b", nil), api.OK)
	holds(t, d, file("a", "", 0), file("b", "12345", 2))
	is(t, "Rename", d.Rename("b", "c"), api.OK)
	holds(t, d, file("a", "", 0), file("c", "12345", 2))
	is(t, "Rename onto another one", d.Rename("c", "a"), api.OK)
	holds(t, d, file("a", "12345", 2))
	is(t, "Rename onto itself", d.Rename("a", "a"), api.OK)
	holds(t, d, file("a", "12345", 2))
	is(t, "Append to a new one of an old name", d.Append("c", []byte("6")), api.OK)
	is(t, "Sync of what is behind", d.Sync("a"), api.OK)
	holds(t, d, file("a", "12345", 5), file("c", "6", 0))
	is(t, "Sync of what is synced", d.Sync("a"), api.OK)
	is(t, "Delete", d.Delete("a"), api.OK)
	holds(t, d, file("c", "6", 0))
	is(t, "Append to a deleted one", d.Append("a", []byte("7")), api.OK)
	holds(t, d, file("a", "7", 0), file("c", "6", 0))
}

func TestNoFile(t *testing.T) {
	d := of(t, never, file("a", "1", 1), file("ab", "2", 1))
	for _, name := range []string{"b", "aa", "abc", "a.", "0"} {
		is(t, "Sync", d.Sync(name), api.ErrNoFile)
		is(t, "Rename", d.Rename(name, "a"), api.ErrNoFile)
		is(t, "Rename onto itself", d.Rename(name, name), api.ErrNoFile)
		is(t, "Delete", d.Delete(name), api.ErrNoFile)
		if b, errno := d.Read(name); len(b) > 0 || errno != api.ErrNoFile {
			t.Errorf("Read(%s): %v %d", name, b, errno)
		}
	}
	holds(t, d, file("a", "1", 1), file("ab", "2", 1))
}

// All files together count, at each change what is there then.
func TestRoom(t *testing.T) {
	d := vdisk.New(api.Plan{Ops: -1, Room: 5})
	is(t, "3 bytes", d.Append("a", []byte("123")), api.OK)
	is(t, "6 bytes, in another file", d.Append("b", []byte("456")), api.ErrFull)
	holds(t, d, file("a", "123", 0))
	is(t, "6 bytes", d.Append("a", []byte("456")), api.ErrFull)
	is(t, "5 bytes", d.Append("b", []byte("45")), api.OK)
	is(t, "5 bytes, in a file without any", d.Append("c", nil), api.OK)
	is(t, "6 bytes, in a new file", d.Append("d", []byte("6")), api.ErrFull)
	is(t, "Sync needs no room", d.Sync("a"), api.OK)
	is(t, "Rename needs no room", d.Rename("c", "d"), api.OK)
	holds(t, d, file("a", "123", 3), file("b", "45", 0), file("d", "", 0))
	is(t, "Rename onto 2 bytes", d.Rename("d", "b"), api.OK)
	is(t, "6 bytes behind that", d.Append("b", []byte("456")), api.ErrFull)
	is(t, "5 bytes behind that", d.Append("b", []byte("45")), api.OK)
	is(t, "Rename onto itself", d.Rename("a", "a"), api.OK)
	is(t, "6 bytes behind that", d.Append("b", []byte("6")), api.ErrFull)
	is(t, "Delete of 3 bytes", d.Delete("a"), api.OK)
	is(t, "6 bytes behind that", d.Append("b", []byte("6789")), api.ErrFull)
	is(t, "5 bytes behind that", d.Append("b", []byte("678")), api.OK)
	holds(t, d, file("b", "45678", 0))
	is(t, "Revive", d.Revive(api.Plan{Ops: -1, Room: 4}), api.OK)
	is(t, "5 bytes behind a crash", d.Append("b", []byte("12345")), api.ErrFull)
	is(t, "4 bytes behind a crash", d.Append("b", []byte("1234")), api.OK)
	holds(t, d, file("b", "1234", 0))
}

func TestBoundsOfRoom(t *testing.T) {
	for _, room := range []int{-1, -2, math.MinInt, math.MaxInt, 1 << 40} {
		d := vdisk.New(api.Plan{Ops: -1, Room: room})
		is(t, "Append", d.Append("a", bytes.Repeat([]byte("x"), 1<<16)), api.OK)
		is(t, "Append", d.Append("a", []byte("y")), api.OK)
	}
	d := vdisk.New(api.Plan{Ops: -1, Room: 0})
	is(t, "a byte without room", d.Append("a", []byte("1")), api.ErrFull)
	holds(t, d)
	is(t, "nothing without room", d.Append("a", nil), api.OK)
	holds(t, d, file("a", "", 0))
}
