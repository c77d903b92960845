package lsm_test

import (
	"fmt"
	"testing"

	"usance/api"
	"usance/lsm"
	"usance/manifest"
	"usance/vdisk"
)

// writesMany writes so many keys, in batches, and flushes them.
func writesMany(t *testing.T, s *lsm.Store, n int, value string) {
	t.Helper()
	for from := 0; from < n; from += api.MaxBatch {
		var batch []api.Op
		for i := from; i < min(n, from+api.MaxBatch); i++ {
			batch = append(batch, ops(fmt.Sprintf("k%05d=%s", i, value))...)
		}
		if _, errno := s.Write(batch); errno != api.OK {
			t.Fatal(errno)
		}
	}
	is(t, "Flush", s.Flush(), api.OK)
}

// refusesCompact tells that Compact answers the error and changes nothing.
func refusesCompact(t *testing.T, d *vdisk.Disk, s *lsm.Store, want api.Errno) {
	t.Helper()
	before, version, last := onDisk(d), toldVersion(s.Version()), s.Last()
	content, errno := s.Scan(nil, nil, last)
	is(t, "Scan", errno, api.OK)
	for range 2 {
		ok, errno := s.Compact(last)
		is(t, "Compact", errno, want)
		if ok || onDisk(d) != before || toldVersion(s.Version()) != version || s.Last() != last {
			t.Fatalf("a Compact that was refused: %t, %s", ok, toldVersion(s.Version()))
		}
		pairs, errno := s.Scan(nil, nil, last)
		is(t, "Scan", errno, api.OK)
		if told(pairs) != told(content) {
			t.Fatal("a Compact that was refused changed what is shown")
		}
	}
}

// More than 1024 tables that one change makes, or takes away, are too many (P15.4).
func TestTooManyTables(t *testing.T) {
	o := roomy
	o.Size = 1
	for _, c := range []struct {
		keys int
		want api.Errno
	}{{1024, api.OK}, {1025, api.ErrLong}, {2000, api.ErrLong}} {
		d := vdisk.New(never)
		s := open(t, d, o)
		writesMany(t, s, c.keys, "x")
		writesMany(t, s, 1, "y")
		if c.want != api.OK {
			refusesCompact(t, d, s, c.want)
			continue
		}
		if ok, errno := s.Compact(0); errno != api.OK || !ok || len(s.Version().Tables) != 1024 {
			t.Fatalf("%t, %d, %d tables", ok, errno, len(s.Version().Tables))
		}
		// As the two new ones of level 0 overlap all of these, they would be taken away with them.
		s = open(t, d, roomy)
		writesMany(t, s, 1, "z")
		writesMany(t, s, 1024, "z")
		refusesCompact(t, d, s, api.ErrLong)
		writesMany(t, s, 3, "w")
		refusesCompact(t, d, s, api.ErrLong)
	}
}

// following makes the disk of a store whose next table has that ID, and which has no table.
func following(t *testing.T, next int) *vdisk.Disk {
	t.Helper()
	d := vdisk.New(never)
	m, errno := manifest.Open(d)
	is(t, "manifest.Open", errno, api.OK)
	one := api.Table{ID: next - 1, Count: 1, Lo: []byte("a"), Hi: []byte("a")}
	is(t, "Apply", m.Apply(api.Edit{Add: []api.Table{one}}), api.OK)
	is(t, "Apply", m.Apply(api.Edit{Drop: []int{next - 1}}), api.OK)
	return d
}

// Without an ID for a table Flush is refused, and Writes go on without it (P15.2, P15.4).
func TestFlushWithoutID(t *testing.T) {
	d := following(t, 999999)
	s := open(t, d, small)
	p := past{}.writes(t, s, "a=1")
	is(t, "Flush", s.Flush(), api.OK)
	version := `log 1 seq 1 next 1000000, 999999/0/1 "a" "a"`
	is(t, "Flush of nothing", s.Flush(), api.OK)
	for i := range 20 {
		p = p.writes(t, s, fmt.Sprintf("%c=%d", 'a'+i%5, i), "h")
		before := onDisk(d)
		is(t, "Flush", s.Flush(), api.ErrRange)
		if got := toldVersion(s.Version()); got != version || onDisk(d) != before {
			t.Fatalf("a Flush that was refused: %s", got)
		}
		shows(t, s, p, s.Mark())
		if i%4 == 3 {
			s = open(t, d, small)
			shows(t, s, p, len(p))
		}
	}
}

// Without IDs for what is made Compact is refused; where nothing is left of the tables it needs none (P15.4).
func TestCompactWithoutID(t *testing.T) {
	d := following(t, 999998)
	s := open(t, d, small)
	for _, text := range []string{"a=1", "b=2"} {
		if _, errno := s.Write(ops(text)); errno != api.OK {
			t.Fatal(errno)
		}
		is(t, "Flush", s.Flush(), api.OK)
	}
	refusesCompact(t, d, s, api.ErrRange)

	d = following(t, 999997)
	s = open(t, d, api.Options{Mem: 9, Size: 1, Block: 1, Fan: 2})
	for _, text := range []string{"a=1", "b=2"} {
		if _, errno := s.Write(ops(text)); errno != api.OK {
			t.Fatal(errno)
		}
		is(t, "Flush", s.Flush(), api.OK)
	}
	// One ID is left, and two would be needed.
	refusesCompact(t, d, s, api.ErrRange)

	d = following(t, 999998)
	s = open(t, d, small)
	var p past
	for _, text := range []string{"a=1", "a"} {
		p = p.writes(t, s, text)
		is(t, "Flush", s.Flush(), api.OK)
	}
	if !compacts(t, d, s, small, 2) {
		t.Fatal("nothing was done")
	}
	if got := toldVersion(s.Version()); got != "log 1 seq 2 next 1000000" {
		t.Fatalf("version %s", got)
	}
	shows(t, open(t, d, small), p, 2)
}

// A store whose version tells a log from another segment on, and a greater number, goes on from there.
func TestOtherVersion(t *testing.T) {
	d := vdisk.New(never)
	m, errno := manifest.Open(d)
	is(t, "manifest.Open", errno, api.OK)
	is(t, "Apply", m.Apply(api.Edit{Log: 5, Seq: 7}), api.OK)
	s := open(t, d, small)
	if s.Last() != 7 || s.Mark() != 7 {
		t.Fatalf("last %d, mark %d", s.Last(), s.Mark())
	}
	if seq, errno := s.Write(ops("a=1")); errno != api.OK || seq != 8 {
		t.Fatalf("Write: %d, %d", seq, errno)
	}
	for range 2 {
		is(t, "Flush", s.Flush(), api.OK)
		if got := toldVersion(s.Version()); got != `log 5 seq 8 next 2, 1/0/1 "a" "a"` {
			t.Fatalf("version %s", got)
		}
		s = open(t, d, small)
	}
}

// No entry may have a number above 2^40, so that no write may, either.
func TestLastNumber(t *testing.T) {
	for _, c := range []struct {
		seq  int
		want api.Errno
	}{{1<<40 - 1, api.OK}, {1 << 40, api.ErrRange}, {1<<63 - 1, api.ErrRange}} {
		d := vdisk.New(never)
		m, errno := manifest.Open(d)
		is(t, "manifest.Open", errno, api.OK)
		is(t, "Apply", m.Apply(api.Edit{Seq: c.seq}), api.OK)
		s := open(t, d, small)
		before := onDisk(d)
		seq, errno := s.Write(ops("a=1"))
		is(t, "Write", errno, c.want)
		if errno != api.OK {
			if seq != 0 || s.Last() != c.seq || onDisk(d) != before {
				t.Fatalf("a Write that was refused: %d, last %d", seq, s.Last())
			}
			continue
		}
		for range 2 {
			if value, ok, errno := s.Get([]byte("a"), s.Last()); errno != api.OK || !ok || string(value) != "1" || s.Last() != 1<<40 {
				t.Fatalf("%q, %t, %d, last %d", value, ok, errno, s.Last())
			}
			s = open(t, d, small)
		}
	}
}
