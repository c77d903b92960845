package lsm_test

import (
	"bytes"
	"fmt"
	"math"
	"slices"
	"strings"
	"testing"

	"usance/api"
	"usance/lsm"
	"usance/vdisk"
)

// never is the plan of a disk that neither crashes nor is full.
var never = api.Plan{Ops: -1, Room: -1}

// small are options under which few writes make many tables.
var small = api.Options{Mem: 3, Size: 2, Block: 2, Fan: 2, Heights: []int{1, 3, 2}}

// roomy are options under which nothing is flushed but by Flush.
var roomy = api.Options{Mem: 4096, Size: 4096, Block: 1024, Fan: 2}

func is(t *testing.T, what string, got, want api.Errno) {
	t.Helper()
	if got != want {
		t.Fatalf("%s: %d, not %d", what, got, want)
	}
}

// ops is a batch: "a=x" lets a be x, "a" lets it be gone.
func ops(texts ...string) []api.Op {
	var list []api.Op
	for _, text := range texts {
		key, value, ok := strings.Cut(text, "=")
		op := api.Op{Key: []byte(key), Dead: !ok}
		if ok {
			op.Value = []byte(value)
		}
		list = append(list, op)
	}
	return list
}

// told is a list of pairs as a text.
func told(pairs []api.Pair) string {
	var b strings.Builder
	for _, p := range pairs {
		fmt.Fprintf(&b, "%s=%s ", p.Key, p.Value)
	}
	return b.String()
}

// toldVersion is a version as a text.
func toldVersion(v api.Version) string {
	var b strings.Builder
	fmt.Fprintf(&b, "log %d seq %d next %d", v.Log, v.Seq, v.Next)
	for _, t := range v.Tables {
		fmt.Fprintf(&b, ", %d/%d/%d %q %q", t.ID, t.Level, t.Count, t.Lo, t.Hi)
	}
	return b.String()
}

// onDisk are the disk's files as a text.
func onDisk(d *vdisk.Disk) string {
	var b strings.Builder
	for _, f := range d.Dump() {
		fmt.Fprintf(&b, "%s=%q/%d ", f.Name, f.Data, f.Synced)
	}
	return b.String()
}

func open(t *testing.T, d *vdisk.Disk, o api.Options) *lsm.Store {
	t.Helper()
	s, errno := lsm.Open(d, o)
	is(t, "Open", errno, api.OK)
	if s == nil {
		t.Fatal("Open: OK and no store")
	}
	return s
}

// past is what was written, by rising numbers: the words of the chapter told another way.
type past [][]api.Op

// at is what is there at a number, as a text by rising keys within the bounds.
func (p past) at(seq int, lo, hi string) string {
	values := map[string]string{}
	for _, batch := range p[:min(seq, len(p))] {
		for _, op := range batch {
			delete(values, string(op.Key))
			if !op.Dead {
				values[string(op.Key)] = string(op.Value)
			}
		}
	}
	var keys []string
	for key := range values {
		if key >= lo && (hi == "" || key < hi) {
			keys = append(keys, key)
		}
	}
	slices.Sort(keys)
	var b strings.Builder
	for _, key := range keys {
		fmt.Fprintf(&b, "%s=%s ", key, values[key])
	}
	return b.String()
}

// writes writes the batch, which is OK, and answers what was written by then.
func (p past) writes(t *testing.T, s *lsm.Store, texts ...string) past {
	t.Helper()
	seq, errno := s.Write(ops(texts...))
	is(t, "Write", errno, api.OK)
	if seq != len(p)+1 {
		t.Fatalf("Write: number %d, not %d", seq, len(p)+1)
	}
	return append(p, ops(texts...))
}

// shows tells that the store's content is this one, from mark on.
func shows(t *testing.T, s *lsm.Store, p past, mark int) {
	t.Helper()
	if s.Last() != len(p) || s.Mark() != mark {
		t.Fatalf("last %d, mark %d, not %d and %d", s.Last(), s.Mark(), len(p), mark)
	}
	for seq := mark; seq <= len(p); seq++ {
		scans(t, s, p, "", "", seq)
	}
	scans(t, s, p, "", "", math.MaxInt)
	scans(t, s, p, "b", "d", len(p))
	for c := byte('a'); c < 'i'; c++ {
		for _, seq := range []int{mark, len(p) - 1, len(p), len(p) + 1} {
			if seq >= mark {
				gets(t, s, p, string(c), seq)
			}
		}
	}
	if mark > 0 {
		below(t, s, mark)
	}
}

func scans(t *testing.T, s *lsm.Store, p past, lo, hi string, seq int) {
	t.Helper()
	pairs, errno := s.Scan([]byte(lo), []byte(hi), seq)
	is(t, "Scan", errno, api.OK)
	if got, want := told(pairs), p.at(seq, lo, hi); got != want {
		t.Fatalf("from %q to %q at %d of %d: %q, not %q", lo, hi, seq, len(p), got, want)
	}
}

func gets(t *testing.T, s *lsm.Store, p past, key string, seq int) {
	t.Helper()
	value, ok, errno := s.Get([]byte(key), seq)
	is(t, "Get", errno, api.OK)
	got := ""
	if ok {
		got = told([]api.Pair{{Key: []byte(key), Value: value}})
	} else if len(value) > 0 {
		t.Fatalf("Get of %q at %d: none, and %q", key, seq, value)
	}
	if want := p.at(seq, key, key+"\x00"); got != want {
		t.Fatalf("%q at %d of %d: %q, not %q", key, seq, len(p), got, want)
	}
}

// below tells that nothing is shown below mark.
func below(t *testing.T, s *lsm.Store, mark int) {
	t.Helper()
	value, ok, errno := s.Get([]byte("a"), mark-1)
	if errno != api.ErrRange || ok || len(value) > 0 {
		t.Fatalf("Get below mark: %q, %t, %d", value, ok, errno)
	}
	pairs, errno := s.Scan(nil, nil, mark-1)
	if errno != api.ErrRange || len(pairs) > 0 {
		t.Fatalf("Scan below mark: %q, %d", told(pairs), errno)
	}
}

// The examples of the chapter.
func TestExamples(t *testing.T) {
	s := open(t, vdisk.New(never), roomy)
	p := past{}.writes(t, s, "a=x")
	p = p.writes(t, s, "a", "b=y")
	if value, ok, errno := s.Get([]byte("a"), 1); errno != api.OK || !ok || string(value) != "x" {
		t.Fatalf("a at 1: %q, %t, %d", value, ok, errno)
	}
	if value, ok, errno := s.Get([]byte("a"), 2); errno != api.OK || ok || len(value) > 0 {
		t.Fatalf("a at 2: %q, %t, %d", value, ok, errno)
	}
	if pairs, errno := s.Scan(nil, nil, 2); errno != api.OK || told(pairs) != "b=y " {
		t.Fatalf("all at 2: %q, %d", told(pairs), errno)
	}
	shows(t, s, p, 0)
}

// A disk without the store's files has the store without writes, and files of other names stay (P15.1).
func TestOpenFresh(t *testing.T) {
	d := vdisk.New(never)
	is(t, "Append", d.Append("other", []byte("x")), api.OK)
	s := open(t, d, small)
	shows(t, s, nil, 0)
	if got := toldVersion(s.Version()); got != "log 0 seq 0 next 1" {
		t.Fatalf("version %s", got)
	}
	var p past
	for i := range 20 {
		p = p.writes(t, s, fmt.Sprintf("a=%d", i), fmt.Sprintf("%c=%d", 'b'+i%5, i))
		if _, errno := s.Compact(i); errno != api.OK {
			t.Fatal(errno)
		}
	}
	shows(t, open(t, d, small), p, 20)
	if b, errno := d.Read("other"); errno != api.OK || string(b) != "x" {
		t.Fatalf("other: %q, %d", b, errno)
	}
}

// Open's errors, in their order (P15.1, R2).
func TestOpenRefuses(t *testing.T) {
	refuses := func(what string, d *vdisk.Disk, o api.Options, want api.Errno) {
		t.Helper()
		s, errno := lsm.Open(d, o)
		is(t, what, errno, want)
		if s != nil {
			t.Fatalf("%s: a store beside an error", what)
		}
	}
	crashed := vdisk.New(api.Plan{Ops: 0, Room: -1})
	is(t, "Append", crashed.Append("a", nil), api.ErrCrashed)
	refuses("no disk", nil, small, api.ErrNil)
	refuses("no disk nor options", nil, api.Options{}, api.ErrNil)
	refuses("a crashed disk", crashed, small, api.ErrCrashed)
	broken, errno := vdisk.Of([]api.File{{Name: "current", Data: []byte("x"), Synced: 1}}, never)
	is(t, "Of", errno, api.OK)
	refuses("a broken manifest", broken, small, api.ErrCorrupt)
	for _, o := range []api.Options{
		{},
		{Mem: 0, Size: 1, Block: 1, Fan: 2},
		{Mem: 4097, Size: 1, Block: 1, Fan: 2},
		{Mem: 1, Size: 0, Block: 1, Fan: 2},
		{Mem: 1, Size: 4097, Block: 1, Fan: 2},
		{Mem: 1, Size: 1, Block: 0, Fan: 2},
		{Mem: 1, Size: 1, Block: 1025, Fan: 2},
		{Mem: 1, Size: 1, Block: 1, Fan: 1},
		{Mem: 1, Size: 1, Block: 1, Fan: 17},
		{Mem: 1, Size: 1, Block: 1, Fan: 2, Heights: make([]int, 65)},
	} {
		refuses(fmt.Sprint(o), vdisk.New(never), o, api.ErrRange)
		refuses(fmt.Sprint(o), crashed, o, api.ErrRange)
		refuses(fmt.Sprint(o), broken, o, api.ErrRange)
	}
	for _, o := range []api.Options{
		{Mem: 1, Size: 1, Block: 1, Fan: 2},
		{Mem: 4096, Size: 4096, Block: 1024, Fan: 16, Heights: make([]int, 64)},
		{Mem: 1, Size: 1, Block: 1, Fan: 2, Heights: []int{math.MinInt, math.MaxInt, -1, 0, 13}},
	} {
		open(t, vdisk.New(never), o)
	}
}

// Of a nil store (P15.1 to P15.4).
func TestNil(t *testing.T) {
	var s *lsm.Store
	for _, batch := range [][]api.Op{nil, ops("a=x"), make([]api.Op, 257)} {
		seq, errno := s.Write(batch)
		is(t, "Write", errno, api.ErrNil)
		if seq != 0 {
			t.Fatalf("Write: %d beside an error", seq)
		}
	}
	for _, seq := range []int{-1, 0, 1} {
		if value, ok, errno := s.Get([]byte("a"), seq); errno != api.ErrNil || ok || value != nil {
			t.Fatalf("Get: %q, %t, %d", value, ok, errno)
		}
		if pairs, errno := s.Scan(nil, nil, seq); errno != api.ErrNil || pairs != nil {
			t.Fatalf("Scan: %q, %d", told(pairs), errno)
		}
		if ok, errno := s.Compact(seq); errno != api.ErrNil || ok {
			t.Fatalf("Compact: %t, %d", ok, errno)
		}
	}
	is(t, "Flush", s.Flush(), api.ErrNil)
	if s.Last() != 0 || s.Mark() != 0 || toldVersion(s.Version()) != toldVersion(api.Version{}) {
		t.Fatalf("last %d, mark %d, version %s", s.Last(), s.Mark(), toldVersion(s.Version()))
	}
}

// many is a batch of so many keys.
func many(n int) []api.Op {
	var list []api.Op
	for i := range n {
		list = append(list, ops(fmt.Sprintf("k%03d=v", i))...)
	}
	return list
}

func sized(key, value int) api.Op {
	return api.Op{Key: bytes.Repeat([]byte("k"), key), Value: bytes.Repeat([]byte("v"), value)}
}

// Batches that are as great as may be, and what else may be (P15.2).
func TestWriteBounds(t *testing.T) {
	d := vdisk.New(never)
	s := open(t, d, roomy)
	full := make([]api.Op, 256)
	for i := range full {
		full[i] = sized(200, 4096)
		full[i].Key[199] = byte(i)
	}
	for i, batch := range [][]api.Op{
		many(1),
		many(256),
		{sized(1, 0)},
		{sized(200, 0)},
		{sized(1, 4096)},
		full,
		{{Key: []byte("gone"), Dead: true}},
		{{Key: []byte("gone"), Dead: true, Value: []byte{}}},
		{{Key: []byte{0}}, {Key: []byte{0, 0}}, {Key: []byte{255}}},
	} {
		seq, errno := s.Write(batch)
		is(t, "Write", errno, api.OK)
		if seq != i+1 || s.Last() != i+1 {
			t.Fatalf("number %d, last %d, not %d", seq, s.Last(), i+1)
		}
		for range 2 {
			for _, op := range batch {
				value, ok, errno := s.Get(op.Key, seq)
				is(t, "Get", errno, api.OK)
				if ok == op.Dead || !bytes.Equal(value, op.Value) {
					t.Fatalf("batch %d: %q is %q, %t", i, op.Key, value, ok)
				}
			}
			s = open(t, d, roomy)
		}
	}
}

// What may not be written, in the order of the errors; nothing of it is there then (P15.2, R2).
func TestWriteRefuses(t *testing.T) {
	d := vdisk.New(never)
	s := open(t, d, roomy)
	p := past{}.writes(t, s, "a=x")
	before := onDisk(d)
	empty, gone := api.Op{}, api.Op{Key: []byte("g"), Dead: true, Value: []byte("x")}
	a := ops("a=y")[0]
	for i, c := range []struct {
		batch []api.Op
		want  api.Errno
	}{
		{append(many(256), sized(1, 1)), api.ErrLong},
		{make([]api.Op, 257), api.ErrLong},
		{slices.Repeat([]api.Op{a}, 257), api.ErrLong},
		{[]api.Op{a, sized(201, 0)}, api.ErrLong},
		{[]api.Op{a, sized(1, 4097)}, api.ErrLong},
		{[]api.Op{empty, gone, a, a, sized(201, 0)}, api.ErrLong},
		{[]api.Op{empty, gone, a, a, sized(1, 4097)}, api.ErrLong},
		{[]api.Op{{Key: []byte("g"), Dead: true, Value: make([]byte, 4097)}}, api.ErrLong},
		{[]api.Op{{Value: make([]byte, 4097)}}, api.ErrLong},
		{nil, api.ErrKey},
		{[]api.Op{}, api.ErrKey},
		{[]api.Op{empty}, api.ErrKey},
		{[]api.Op{a, {Key: []byte{}, Value: []byte("x")}}, api.ErrKey},
		{[]api.Op{gone, a, a, empty}, api.ErrKey},
		{[]api.Op{{Dead: true, Value: []byte("x")}}, api.ErrKey},
		{[]api.Op{gone}, api.ErrRange},
		{[]api.Op{a, a, gone}, api.ErrRange},
		{[]api.Op{gone, gone}, api.ErrRange},
		{[]api.Op{a, a}, api.ErrTwice},
		{ops("a=x", "b=y", "a"), api.ErrTwice},
		{ops("b", "c", "b"), api.ErrTwice},
		{append(many(255), many(1)...), api.ErrTwice},
	} {
		seq, errno := s.Write(c.batch)
		is(t, fmt.Sprintf("batch %d", i), errno, c.want)
		if seq != 0 {
			t.Fatalf("batch %d: number %d beside an error", i, seq)
		}
		if onDisk(d) != before {
			t.Fatalf("batch %d: the disk has changed", i)
		}
		shows(t, s, p, 0)
	}
	// On a crashed disk what may not be is told ahead of that.
	is(t, "Revive", d.Revive(api.Plan{Ops: 0, Room: -1}), api.OK)
	is(t, "Sync", d.Append("x", nil), api.ErrCrashed)
	for _, c := range []struct {
		batch []api.Op
		want  api.Errno
	}{{many(257), api.ErrLong}, {nil, api.ErrKey}, {[]api.Op{gone}, api.ErrRange}, {[]api.Op{a, a}, api.ErrTwice}, {[]api.Op{a}, api.ErrCrashed}} {
		_, errno := s.Write(c.batch)
		is(t, "Write on a crashed disk", errno, c.want)
	}
}

// Memory is flushed when it has Mem entries, which are versions of keys, not batches (P15.2).
func TestWriteFlushes(t *testing.T) {
	for mem := 1; mem < 8; mem++ {
		for step := 1; step < 5; step++ {
			d := vdisk.New(never)
			o := small
			o.Mem = mem
			s := open(t, d, o)
			var p past
			tables, inside := 0, 0
			for i := range 12 {
				var texts []string
				for k := range step {
					texts = append(texts, fmt.Sprintf("%c=%d", 'a'+k, i))
				}
				p = p.writes(t, s, texts...)
				if inside += step; inside >= mem {
					tables++
					inside = 0
				}
				if v := s.Version(); len(v.Tables) != tables || inside == 0 && v.Seq != len(p) {
					t.Fatalf("mem %d, %d a batch: %s behind %d batches", mem, step, toldVersion(v), len(p))
				}
				shows(t, s, p, 0)
			}
			shows(t, open(t, d, o), p, len(p))
		}
	}
}
