package lsm_test

import (
	"bytes"
	"fmt"
	"slices"
	"strings"
	"testing"

	"usance/api"
	"usance/frame"
	"usance/lsm"
	"usance/manifest"
	"usance/varint"
	"usance/vdisk"
)

// stored is a disk with tables of two levels and a log, and what was written.
func stored(t *testing.T) (*vdisk.Disk, past) {
	t.Helper()
	d := vdisk.New(never)
	s := open(t, d, small)
	var p past
	for i := range 11 {
		p = p.writes(t, s, fmt.Sprintf("%c=%d", 'a'+i*3%8, i))
		if i == 5 {
			if ok, errno := s.Compact(i); errno != api.OK || !ok {
				t.Fatalf("Compact: %t, %d", ok, errno)
			}
		}
	}
	levels := [2]int{}
	for _, told := range s.Version().Tables {
		levels[told.Level]++
	}
	if files := filesOf(t, d); levels[0] < 1 || levels[1] < 2 || len(files) != levels[0]+levels[1]+2 {
		t.Fatalf("levels %v, files %q", levels, files)
	}
	return d, p
}

// with is the disk with other bytes in one file.
func with(t *testing.T, d *vdisk.Disk, name string, b []byte) *vdisk.Disk {
	t.Helper()
	files := d.Dump()
	for i := range files {
		if files[i].Name == name {
			files[i].Data, files[i].Synced = b, len(b)
		}
	}
	other, errno := vdisk.Of(files, never)
	is(t, "Of", errno, api.OK)
	return other
}

// without is the disk without one file.
func without(t *testing.T, d *vdisk.Disk, name string) *vdisk.Disk {
	t.Helper()
	files := slices.DeleteFunc(d.Dump(), func(f api.File) bool { return f.Name == name })
	other, errno := vdisk.Of(files, never)
	is(t, "Of", errno, api.OK)
	return other
}

// fails tells whether a call answered ErrCorrupt; any other error is none that it may answer.
func fails(t *testing.T, what string, errno api.Errno) bool {
	t.Helper()
	if errno != api.OK {
		is(t, what, errno, api.ErrCorrupt)
	}
	return errno != api.OK
}

// neverWrong tells that a store on such a disk shows what it has, or answers ErrCorrupt; and whether any call did.
func neverWrong(t *testing.T, d *vdisk.Disk, p past) bool {
	t.Helper()
	s, errno := lsm.Open(d, small)
	if fails(t, "Open", errno) {
		if s != nil {
			t.Fatal("a store beside an error")
		}
		return true
	}
	// Of a log that is cut what stands ahead of the cut is read.
	if s.Last() > len(p) {
		t.Fatalf("last %d of %d", s.Last(), len(p))
	}
	p = p[:s.Last()]
	fault := false
	for c := 'a'; c < 'i'; c++ {
		value, ok, errno := s.Get([]byte{byte(c)}, len(p))
		if fails(t, "Get", errno) {
			fault = true
			if ok || value != nil {
				t.Fatalf("Get: %q, %t beside an error", value, ok)
			}
		} else {
			gets(t, s, p, string(c), len(p))
		}
		pairs, errno := s.Scan([]byte{byte(c)}, []byte{byte(c + 1)}, len(p))
		if fails(t, "Scan", errno) {
			fault = true
			if pairs != nil {
				t.Fatalf("Scan: %q beside an error", told(pairs))
			}
		} else {
			scans(t, s, p, string(c), string(c+1), len(p))
		}
	}
	if _, errno := s.Scan(nil, nil, len(p)); fails(t, "Scan of all", errno) {
		fault = true
	} else {
		scans(t, s, p, "", "", len(p))
	}
	before, version := onDisk(d), toldVersion(s.Version())
	if _, errno := s.Compact(len(p)); fails(t, "Compact", errno) {
		fault = true
		if onDisk(d) != before || toldVersion(s.Version()) != version {
			t.Fatal("a Compact that was refused changed the disk")
		}
	}
	return fault
}

// Whatever byte is turned, and wherever a file is cut: what is shown is what was written, or the answer is ErrCorrupt (P15.1, P15.3).
func TestTurned(t *testing.T) {
	d, p := stored(t)
	for _, f := range d.Dump() {
		isLog := strings.HasSuffix(f.Name, ".log")
		faults := 0
		for at := range f.Data {
			for _, bit := range []byte{1, 128} {
				b := bytes.Clone(f.Data)
				b[at] ^= bit
				if neverWrong(t, with(t, d, f.Name, b), p) {
					faults++
				}
			}
			if neverWrong(t, with(t, d, f.Name, f.Data[:at]), p) {
				faults++
			}
		}
		if !isLog && faults < 3*len(f.Data) {
			t.Fatalf("%s: %d faults of %d were told", f.Name, faults, 3*len(f.Data))
		}
		if !isLog && !neverWrong(t, without(t, d, f.Name), p) && f.Name != "current" {
			t.Fatalf("%s is missed by none", f.Name)
		}
	}
}

// A store of which one table is broken shows what stands elsewhere, and takes writes (P15.3).
func TestOneBroken(t *testing.T) {
	d := vdisk.New(never)
	s := open(t, d, roomy)
	p := past{}.writes(t, s, "a=1", "b=1")
	is(t, "Flush", s.Flush(), api.OK)
	p = p.writes(t, s, "c=2", "d=2")
	is(t, "Flush", s.Flush(), api.OK)
	b, errno := d.Read(manifest.Name(1))
	is(t, "Read", errno, api.OK)
	// The last byte stands in the last block, which is read when it is asked for.
	b[len(b)-1] ^= 1
	d = with(t, d, manifest.Name(1), b)
	s = open(t, d, roomy)
	for range 2 {
		gets(t, s, p, "c", 2)
		scans(t, s, p, "c", "", 2)
		scans(t, s, p, "0", "a", 2)
		gets(t, s, p, "0", 2)
		if value, ok, errno := s.Get([]byte("a"), 2); errno != api.ErrCorrupt || ok || value != nil {
			t.Fatalf("a: %q, %t, %d", value, ok, errno)
		}
		if pairs, errno := s.Scan(nil, nil, 2); errno != api.ErrCorrupt || pairs != nil {
			t.Fatalf("all: %q, %d", told(pairs), errno)
		}
		before := onDisk(d)
		if ok, errno := s.Compact(2); errno != api.ErrCorrupt || ok || s.Mark() != 2 || onDisk(d) != before {
			t.Fatalf("Compact: %t, %d, mark %d", ok, errno, s.Mark())
		}
	}
	p = p.writes(t, s, "e=3")
	is(t, "Flush", s.Flush(), api.OK)
	gets(t, s, p, "e", 3)
}

// Tables that aren't those that the version tells (P15.1).
func TestOtherTables(t *testing.T) {
	d := vdisk.New(never)
	s := open(t, d, roomy)
	for _, texts := range [][]string{{"a=1", "c=1"}, {"b=2", "c=2"}, {"a=3", "b=3"}, {"a=4", "b", "c=4"}} {
		if _, errno := s.Write(ops(texts...)); errno != api.OK {
			t.Fatal(errno)
		}
		is(t, "Flush", s.Flush(), api.OK)
	}
	open(t, d, roomy)
	for id := 1; id <= 4; id++ {
		for other := 1; other <= 4; other++ {
			b, errno := d.Read(manifest.Name(other))
			is(t, "Read", errno, api.OK)
			want := api.ErrCorrupt
			if id == other {
				want = api.OK
			}
			_, errno = lsm.Open(with(t, d, manifest.Name(id), b), roomy)
			is(t, fmt.Sprintf("table %d as %d", other, id), errno, want)
		}
		_, errno := lsm.Open(without(t, d, manifest.Name(id)), roomy)
		is(t, fmt.Sprintf("table %d missing", id), errno, api.ErrCorrupt)
	}
}

// Two tables that have one version of a key (P15.3).
func TestVersionTwice(t *testing.T) {
	d := vdisk.New(never)
	s := open(t, d, roomy)
	if _, errno := s.Write(ops("a=1")); errno != api.OK {
		t.Fatal(errno)
	}
	is(t, "Flush", s.Flush(), api.OK)
	b, errno := d.Read(manifest.Name(1))
	is(t, "Read", errno, api.OK)
	is(t, "Append", d.Append(manifest.Name(2), b), api.OK)
	m, errno := manifest.Open(d)
	is(t, "manifest.Open", errno, api.OK)
	again := api.Table{ID: 2, Count: 1, Lo: []byte("a"), Hi: []byte("a")}
	is(t, "Apply", m.Apply(api.Edit{Add: []api.Table{again}, Log: 1, Seq: 1}), api.OK)
	s = open(t, d, roomy)
	if pairs, errno := s.Scan(nil, nil, 1); errno != api.ErrCorrupt || pairs != nil {
		t.Fatalf("%q, %d", told(pairs), errno)
	}
	if ok, errno := s.Compact(1); errno != api.ErrCorrupt || ok {
		t.Fatalf("%t, %d", ok, errno)
	}
}

// joined are numbers and texts as a record has them.
func joined(parts ...any) []byte {
	var b []byte
	for _, part := range parts {
		switch x := part.(type) {
		case int:
			b = varint.AppendUint(b, uint64(x))
		case string:
			b = varint.AppendBytes(b, []byte(x))
		}
	}
	return b
}

// logged is a disk whose log has such records, each in its segment.
func logged(t *testing.T, records ...[]byte) *vdisk.Disk {
	t.Helper()
	d := vdisk.New(never)
	for i, record := range records {
		framed, errno := frame.Put(record)
		is(t, "Put", errno, api.OK)
		name := fmt.Sprintf("w%06d.log", i+1)
		is(t, "Append", d.Append(name, framed), api.OK)
		is(t, "Sync", d.Sync(name), api.OK)
	}
	return d
}

// Records under right sums that no Write makes (P15.1).
func TestRecords(t *testing.T) {
	first, second := joined(1, 0, "a", "x"), joined(2, 0, "b", "y", 1, "a", "")
	shows(t, open(t, logged(t, first, second), roomy), past{ops("a=x"), ops("b=y", "a")}, 2)
	many := []any{2}
	for i := range 257 {
		many = append(many, 0, fmt.Sprint(i), "")
	}
	if last := open(t, logged(t, first, joined(many[:1+3*256]...)), roomy).Last(); last != 2 {
		t.Fatalf("a batch of 256: last %d", last)
	}
	for i, record := range [][]byte{
		{},
		{0x80},
		joined(2),
		joined(2, 0),
		joined(2, 0, "b"),
		joined(2, 2, "b", "y"),
		joined(2, 1, "b", "y"),
		joined(2, 0, "", "y"),
		joined(2, 0, "b", "y", 0, "b", "z"),
		joined(2, 0, "b", "y", 0, "c"),
		append(joined(2, 0, "b", "y"), 0x80),
		joined(2, 0, strings.Repeat("b", 201), "y"),
		joined(2, 0, "b", strings.Repeat("y", 4097)),
		joined(many...),
		joined(0, 0, "b", "y"),
		joined(-1, 0, "b", "y"),
		joined(1<<40+1, 0, "b", "y"),
		joined(3, 0, "b", "y"),
		first,
	} {
		d := logged(t, first, record)
		is(t, "Append", d.Append(manifest.Name(9), []byte("x")), api.OK)
		before := onDisk(d)
		_, errno := lsm.Open(d, roomy)
		is(t, fmt.Sprintf("record %d", i), errno, api.ErrCorrupt)
		if onDisk(d) != before {
			t.Fatalf("record %d: the disk has changed", i)
		}
	}
	// A number ahead of what the tables have by more than one.
	_, errno := lsm.Open(logged(t, second), roomy)
	is(t, "the second alone", errno, api.ErrCorrupt)
	// A number above all that entries may have, though the tables have the one ahead.
	high := logged(t, joined(1<<40+1, 0, "b", "y"))
	m, errno := manifest.Open(high)
	is(t, "manifest.Open", errno, api.OK)
	is(t, "Apply", m.Apply(api.Edit{Seq: 1 << 40}), api.OK)
	_, errno = lsm.Open(high, roomy)
	is(t, "too high a number", errno, api.ErrCorrupt)
	// Of what the tables have already, nothing is asked but that it can be read.
	d := logged(t, first, second)
	m, errno = manifest.Open(d)
	is(t, "manifest.Open", errno, api.OK)
	is(t, "Apply", m.Apply(api.Edit{Seq: 1}), api.OK)
	s := open(t, d, roomy)
	if pairs, errno := s.Scan(nil, nil, 2); errno != api.OK || told(pairs) != "b=y " {
		t.Fatalf("%q, %d", told(pairs), errno)
	}
}

// A segment that is missing in between is a fault; the last one number that there may be, which the store never gets to, too (P15.1).
func TestSegments(t *testing.T) {
	d := vdisk.New(never)
	s := open(t, d, roomy)
	for i := range 4 {
		if _, errno := s.Write(ops(fmt.Sprintf("a=%d", i))); errno != api.OK {
			t.Fatal(errno)
		}
	}
	files := filesOf(t, d)
	for i, name := range files {
		other := without(t, d, name)
		if i == len(files)-1 {
			shows(t, open(t, other, roomy), past{ops("a=0"), ops("a=1"), ops("a=2")}, 3)
			continue
		}
		_, errno := lsm.Open(other, roomy)
		is(t, name+" missing", errno, api.ErrCorrupt)
	}
	is(t, "Append", d.Append("w999999.log", nil), api.OK)
	_, errno := lsm.Open(d, roomy)
	is(t, "the last segment", errno, api.ErrCorrupt)
}
