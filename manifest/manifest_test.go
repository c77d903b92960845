package manifest_test

import (
	"fmt"
	"math"
	"slices"
	"strings"
	"testing"

	"usance/api"
	"usance/manifest"
	"usance/vdisk"
)

// never is the plan of a disk that neither crashes nor is full.
var never = api.Plan{Ops: -1, Room: -1}

func is(t *testing.T, what string, got, want api.Errno) {
	t.Helper()
	if got != want {
		t.Fatalf("%s: %d, not %d", what, got, want)
	}
}

func table(id, level, count int, lo, hi string) api.Table {
	return api.Table{ID: id, Level: level, Count: count, Lo: []byte(lo), Hi: []byte(hi)}
}

// plain is a table of which the ID alone counts.
func plain(id int) api.Table { return table(id, 0, 1, "a", "b") }

// adds is an edit of plain tables.
func adds(ids ...int) api.Edit {
	var e api.Edit
	for _, id := range ids {
		e.Add = append(e.Add, plain(id))
	}
	return e
}

// told is a version as a text that tells all of it; nil and empty bytes are alike in it.
func told(v api.Version) string {
	var b strings.Builder
	fmt.Fprintf(&b, "log %d seq %d next %d", v.Log, v.Seq, v.Next)
	for _, t := range v.Tables {
		fmt.Fprintf(&b, ", %d/%d/%d %q %q", t.ID, t.Level, t.Count, t.Lo, t.Hi)
	}
	return b.String()
}

// fresh tells the version of a disk without the manifest's files.
const fresh = "log 0 seq 0 next 1"

// onDisk are the disk's files as a text.
func onDisk(d *vdisk.Disk) string {
	var b strings.Builder
	for _, f := range d.Dump() {
		fmt.Fprintf(&b, "%s=%q/%d ", f.Name, f.Data, f.Synced)
	}
	return b.String()
}

// isOwn tells whether a file may be the manifest's.
func isOwn(name string) bool {
	return strings.HasPrefix(name, "m") || strings.HasPrefix(name, "current")
}

// open opens the manifest and tells that its files stand synced.
func open(t *testing.T, d *vdisk.Disk) *manifest.Manifest {
	t.Helper()
	m, errno := manifest.Open(d)
	is(t, "Open", errno, api.OK)
	if m == nil {
		t.Fatal("Open: OK and no manifest")
	}
	for _, f := range d.Dump() {
		if isOwn(f.Name) && f.Synced != len(f.Data) {
			t.Fatalf("behind Open %s has %d bytes, of which %d are synced", f.Name, len(f.Data), f.Synced)
		}
	}
	return m
}

// has tells that the manifest has the version.
func has(t *testing.T, m *manifest.Manifest, want string) {
	t.Helper()
	if got := told(m.Version()); got != want {
		t.Fatalf("the version is %s, not %s", got, want)
	}
}

// applies tells that the edit is done, and that the version then is Fold's.
func applies(t *testing.T, m *manifest.Manifest, e api.Edit) string {
	t.Helper()
	v, errno := manifest.Fold(m.Version(), e)
	is(t, "Fold", errno, api.OK)
	is(t, "Apply", m.Apply(e), api.OK)
	has(t, m, told(v))
	return told(v)
}

// story is edits that are done one behind the other, of tables with short keys and long ones.
func story() []api.Edit {
	long := strings.Repeat("k", api.MaxKey)
	return []api.Edit{
		{Add: []api.Table{plain(1)}, Log: 1, Seq: 3},
		{Add: []api.Table{table(3, 3, 4096, "b\x00", "b\x00\xff"), table(2, 1, 2, "\x00", long)}, Log: 1, Seq: 7},
		{Drop: []int{1}, Add: []api.Table{table(5, 2, 1<<40, long, long)}, Log: 2, Seq: 1 << 40},
		{Log: 300, Seq: 1 << 40},
		{Drop: []int{5, 2, 3}, Log: 300, Seq: math.MaxInt},
		{Add: []api.Table{plain(999999)}, Log: math.MaxInt, Seq: math.MaxInt},
	}
}

func TestName(t *testing.T) {
	for id := 1; id <= 999999; id++ {
		if got := manifest.Name(id); got != fmt.Sprintf("t%06d.tbl", id) {
			t.Fatalf("Name(%d) = %q", id, got)
		}
	}
	for _, id := range []int{math.MinInt, -999999, -1, 0, 1000000, 1000001, math.MaxInt} {
		if got := manifest.Name(id); got != "" {
			t.Errorf("Name(%d) = %q", id, got)
		}
	}
}

// A disk without its files has a manifest, whatever else is there, and to open it changes nothing.
func TestFreshDisk(t *testing.T) {
	d := vdisk.New(never)
	has(t, open(t, d), fresh)
	for _, name := range []string{"t000001.tbl", "w000001.log", "a", "-", "0", "z", "l", "n"} {
		is(t, "Append", d.Append(name, []byte(name)), api.OK)
	}
	files := onDisk(d)
	for range 2 {
		has(t, open(t, d), fresh)
	}
	if onDisk(d) != files {
		t.Errorf("the disk became %s", onDisk(d))
	}
	is(t, "Revive", d.Revive(api.Plan{Ops: 0, Room: 0}), api.OK)
	has(t, open(t, d), fresh)
}

// Behind each edit the version is Fold's, opened again too, with a crash between or without, on the disk or on one of its files.
func TestLasts(t *testing.T) {
	d := vdisk.New(never)
	m := open(t, d)
	want := fresh
	for _, e := range story() {
		want = applies(t, m, e)
		has(t, open(t, d), want)
		is(t, "Revive", d.Revive(never), api.OK)
		again, errno := vdisk.Of(d.Dump(), never)
		is(t, "Of", errno, api.OK)
		has(t, open(t, again), want)
		if len(want) > 100 {
			m = open(t, d) // the others go on with the one that they have
		}
	}
	if want == fresh {
		t.Error("nothing was told")
	}
}

// What is answered as done is synced, in files of the names that the chapter leaves.
func TestFilesAreItsOwn(t *testing.T) {
	d := vdisk.New(never)
	d.Append("x", []byte("bytes"))
	m := open(t, d)
	for _, e := range story() {
		applies(t, m, e)
		own := 0
		for _, f := range d.Dump() {
			switch {
			case f.Name == "x" && string(f.Data) == "bytes" && f.Synced == 0:
			case isOwn(f.Name) && f.Synced == len(f.Data):
				own++
			default:
				t.Fatalf("%s has %d bytes, %d synced", f.Name, len(f.Data), f.Synced)
			}
		}
		// What the version was stays no longer than it is needed.
		if own != 2 {
			t.Fatalf("%d files: %s", own, onDisk(d))
		}
	}
}

// Files that weren't synced are when Open answers, and those that a crash left are gone.
func TestOpenSyncs(t *testing.T) {
	d := vdisk.New(never)
	want := applies(t, open(t, d), story()[1])
	var files []api.File
	for _, f := range d.Dump() {
		f.Synced = len(f.Data) / 2
		files = append(files, f)
	}
	d, errno := vdisk.Of(files, never)
	is(t, "Of", errno, api.OK)
	has(t, open(t, d), want)
	is(t, "Revive", d.Revive(never), api.OK)
	has(t, open(t, d), want)
}

// Of a disk with a manifest nothing is written anew: Open needs no room, and changes no bytes.
func TestOpenNeedsNoRoom(t *testing.T) {
	d := vdisk.New(never)
	want := applies(t, open(t, d), story()[1])
	files := onDisk(d)
	is(t, "Revive", d.Revive(api.Plan{Ops: -1, Room: 0}), api.OK)
	for range 3 {
		m := open(t, d)
		has(t, m, want)
		is(t, "Apply", m.Apply(api.Edit{Log: 1, Seq: 7}), api.ErrFull)
		has(t, m, want)
	}
	if onDisk(d) != files {
		t.Errorf("the disk became %s", onDisk(d))
	}
}

// An edit of nothing is one, too.
func TestEmptyEdit(t *testing.T) {
	d := vdisk.New(never)
	m := open(t, d)
	for range 3 {
		if want := applies(t, m, api.Edit{}); want != fresh {
			t.Errorf("the version became %s", want)
		}
		has(t, open(t, d), fresh)
	}
}

func TestNil(t *testing.T) {
	var m *manifest.Manifest
	if got := told(m.Version()); got != "log 0 seq 0 next 0" {
		t.Errorf("Version: %s", got)
	}
	is(t, "Apply", m.Apply(adds(1)), api.ErrNil)
	is(t, "Apply", m.Apply(adds(0)), api.ErrNil)
	names, errno := m.Sweep()
	if is(t, "Sweep", errno, api.ErrNil); len(names) > 0 {
		t.Errorf("Sweep: %q", names)
	}
	m, errno = manifest.Open(nil)
	if is(t, "Open", errno, api.ErrNil); m != nil {
		t.Error("Open: a manifest beside an error")
	}
}

// A refused edit leaves the version and the disk as they are.
func TestRefusedEdits(t *testing.T) {
	d := vdisk.New(never)
	m := open(t, d)
	e := adds(2, 4)
	e.Log, e.Seq = 3, 9
	want := applies(t, m, e)
	files := onDisk(d)
	for _, c := range []struct {
		e    api.Edit
		want api.Errno
	}{
		{api.Edit{Add: make([]api.Table, 1025), Log: 3, Seq: 9}, api.ErrLong},
		{api.Edit{Drop: []int{3}, Log: 3, Seq: 9}, api.ErrNone},
		{api.Edit{Log: 2, Seq: 9}, api.ErrRange},
		{api.Edit{Log: 3, Seq: 8}, api.ErrRange},
		{api.Edit{Add: []api.Table{plain(5), plain(0)}, Drop: []int{2}, Log: 3, Seq: 9}, api.ErrRange},
		{api.Edit{Add: []api.Table{plain(5), table(6, 0, 1, "b", "a")}, Drop: []int{2}, Log: 3, Seq: 9}, api.ErrKey},
		{api.Edit{Add: []api.Table{plain(5), plain(2)}, Drop: []int{2}, Log: 3, Seq: 9}, api.ErrTwice},
	} {
		is(t, fmt.Sprintf("Apply(%.100v)", c.e), m.Apply(c.e), c.want)
		has(t, m, want)
		if onDisk(d) != files {
			t.Fatalf("behind %d the disk became %s", c.want, onDisk(d))
		}
		has(t, open(t, d), want)
	}
	// Fold's errors are named ahead of the disk's.
	is(t, "Revive", d.Revive(api.Plan{Ops: 0, Room: -1}), api.OK)
	is(t, "Append", d.Append("x", nil), api.ErrCrashed)
	is(t, "Apply", m.Apply(api.Edit{Log: 2, Seq: 9}), api.ErrRange)
	is(t, "Apply", m.Apply(api.Edit{Log: 3, Seq: 9}), api.ErrCrashed)
	_, errno := m.Sweep()
	is(t, "Sweep", errno, api.ErrCrashed)
	has(t, m, want)
	is(t, "Revive", d.Revive(api.Plan{Ops: -1, Room: 0}), api.OK)
	is(t, "Apply", m.Apply(api.Edit{Log: 2, Seq: 9}), api.ErrRange)
	is(t, "Apply", m.Apply(api.Edit{Log: 3, Seq: 9}), api.ErrFull)
}

// Many tables with long keys, far more than a frame holds, as many at once as there may be.
func TestManyTables(t *testing.T) {
	d := vdisk.New(never)
	m := open(t, d)
	const times = 6
	for i := range times {
		var e api.Edit
		for k := range 1024 {
			id := 999999 - times*1024 + i*1024 + k + 1
			lo := fmt.Sprintf("%06d%s", id, strings.Repeat("l", api.MaxKey-6))
			e.Add = append(e.Add, table(id, k%4, id, lo, lo[:6]+strings.Repeat("\xff", api.MaxKey-6)))
		}
		slices.Reverse(e.Add)
		is(t, "Apply", m.Apply(e), api.OK)
	}
	want := told(m.Version())
	if len(want) < 2*api.MaxFrame {
		t.Fatal("too few")
	}
	m = open(t, d)
	has(t, m, want)
	var e api.Edit
	for i, x := range m.Version().Tables {
		if i%6 == 5 {
			e.Drop = append(e.Drop, x.ID)
		}
	}
	want = applies(t, m, e)
	m = open(t, d)
	has(t, m, want)
	if v := m.Version(); len(e.Drop) != 1024 || len(v.Tables) != 5*1024 || v.Next != 1000000 {
		t.Errorf("%d tables, next %d", len(v.Tables), v.Next)
	}
}

// Many edits leave no more on the disk than the last one needs.
func TestManyEdits(t *testing.T) {
	d := vdisk.New(never)
	m := open(t, d)
	size := 0
	for i := range 5000 {
		e := adds(i + 1)
		if i > 0 {
			e.Drop = []int{i}
		}
		e.Log, e.Seq = i, 2*i
		is(t, "Apply", m.Apply(e), api.OK)
		if i%1000 == 0 {
			m = open(t, d)
		}
		bytes := 0
		for _, f := range d.Dump() {
			bytes += len(f.Data)
		}
		size = max(size, bytes)
	}
	has(t, open(t, d), `log 4999 seq 9998 next 5001, 5000/0/1 "a" "b"`)
	if size > 200 {
		t.Errorf("%d bytes for a table", size)
	}
}
