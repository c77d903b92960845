package mvcc_test

import (
	"bytes"
	"fmt"
	"testing"

	"usance/api"
	"usance/vdisk"
)

// sized is a key or a value of so many bytes.
func sized(n int) []byte { return bytes.Repeat([]byte("k"), n) }

// A transaction sees its own writes over those of its view, the last one of a key alone; nobody else sees them ahead of its commit (P16.2, P16.3).
func TestOwnWrites(t *testing.T) {
	db := base(t)
	writes(t, db, "a=1", "b=2", "c=3", "d=4")
	x, other := begin(t, db), begin(t, db)
	for _, step := range [][2]string{
		{"bb=new", "a=1 b=2 bb=new c=3 d=4"},
		{"b=own", "a=1 b=own bb=new c=3 d=4"},
		{"c", "a=1 b=own bb=new d=4"},
		{"c", "a=1 b=own bb=new d=4"},
		{"c=again", "a=1 b=own bb=new c=again d=4"},
		{"bb", "a=1 b=own c=again d=4"},
		{"a", "b=own c=again d=4"},
		{"a=", "a= b=own c=again d=4"},
		{"d=", "a= b=own c=again d="},
		{"0=first", "0=first a= b=own c=again d="},
		{"e", "0=first a= b=own c=again d="},
		{"e=last", "0=first a= b=own c=again d= e=last"},
		{"b=own", "0=first a= b=own c=again d= e=last"},
	} {
		puts(t, x, step[0])
		same(t, "all behind "+step[0], scan(t, x, "", ""), step[1])
		same(t, "b to d", scan(t, x, "b", "d"), between(step[1], "b", "d"))
		for _, key := range []string{"0", "a", "b", "bb", "c", "d", "e", "f"} {
			same(t, "behind "+step[0], get(t, x, key), between(step[1], key, key+"\x00"))
		}
		same(t, "another's", scan(t, other, "", ""), "a=1 b=2 c=3 d=4")
		holds(t, db, "a=1 b=2 c=3 d=4")
	}
	commits(t, x, 2)
	holds(t, db, "0=first a= b=own c=again d= e=last")
	same(t, "another's", scan(t, other, "", ""), "a=1 b=2 c=3 d=4")
}

// Ranges are told in layer 15's words, of own writes, too: from lo on, below hi, an empty hi being no bound, byte by byte (P16.2).
func TestScanBounds(t *testing.T) {
	db := base(t)
	writes(t, db, "a=1", "ab=2", "b=3", "\xff=4")
	bounds := []string{"", "\x00", "a", "a\x00", "aa", "ab", "abc", "b", "ba", "c", "\xff", "\xff\xff", string(sized(1000))}
	for _, own := range [][]string{nil, {"aa=x"}, {"a", "aa=x", "ab=y", "ba=z"}, {"\x00=x", "a\x00=y", "\xff"}, {"a", "ab", "b", "\xff"}} {
		x := begin(t, db)
		puts(t, x, own...)
		all := scan(t, x, "", "")
		for _, lo := range bounds {
			for _, hi := range bounds {
				same(t, fmt.Sprintf("%q to %q over %q", lo, hi, own), scan(t, x, lo, hi), between(all, lo, hi))
			}
		}
	}
}

// A value without bytes is there; one that is gone isn't (P16.2, P16.3).
func TestEmptyValue(t *testing.T) {
	db := base(t)
	x := begin(t, db)
	is(t, "Put", x.Put([]byte("a"), nil), api.OK)
	is(t, "Put", x.Put([]byte("b"), []byte{}), api.OK)
	for range 2 {
		same(t, "all", scan(t, x, "", "")+" "+get(t, x, "a")+" "+get(t, x, "b"), "a= b= a= b=")
		if _, errno := x.Commit(); errno != api.OK {
			t.Fatal(errno)
		}
		x = begin(t, db)
	}
}

// What may not be asked for, in the order of the errors (P16.2, P16.3, R2).
func TestRefuses(t *testing.T) {
	db := base(t)
	writes(t, db, "a=1")
	for _, full := range []bool{false, true} {
		x := begin(t, db)
		count := 0
		for ; full && count < 256; count++ {
			puts(t, x, fmt.Sprintf("k%03d=x", count))
		}
		before := scan(t, x, "", "")
		for _, c := range []struct {
			key  []byte
			want api.Errno
		}{{nil, api.ErrKey}, {[]byte{}, api.ErrKey}, {sized(201), api.ErrLong}, {sized(5000), api.ErrLong}} {
			value, ok, errno := x.Get(c.key)
			is(t, "Get", errno, c.want)
			if ok || value != nil {
				t.Fatalf("Get: %q, %t beside an error", value, ok)
			}
			for _, value := range [][]byte{nil, sized(4096), sized(4097)} {
				is(t, "Put", x.Put(c.key, value), c.want)
			}
			is(t, "Delete", x.Delete(c.key), c.want)
		}
		is(t, "Put", x.Put([]byte("a"), sized(4097)), api.ErrLong)
		is(t, "Put", x.Put([]byte("k000"), sized(4097)), api.ErrLong)
		same(t, "all", scan(t, x, "", ""), before)
		if !full {
			// What was refused isn't written.
			commits(t, x, 1)
			continue
		}
		commits(t, x, 2)
		holds(t, db, before)
	}
}

// Keys and values as long as may be (P16.2, P16.3).
func TestLongest(t *testing.T) {
	db := base(t)
	x := begin(t, db)
	if _, ok, errno := x.Get(sized(200)); ok || errno != api.OK {
		t.Fatalf("Get: %t, %d", ok, errno)
	}
	is(t, "Put", x.Put(sized(200), sized(4096)), api.OK)
	is(t, "Delete", x.Delete(sized(199)), api.OK)
	for i := range 2 {
		value, ok, errno := x.Get(sized(200))
		if errno != api.OK || !ok || !bytes.Equal(value, sized(4096)) {
			t.Fatalf("Get: %d bytes, %t, %d", len(value), ok, errno)
		}
		commits(t, x, 1)
		x = begin(t, db)
		lowIs(t, db, 1)
		if i > 0 {
			is(t, "Delete", x.Delete(sized(200)), api.OK)
			commits(t, x, 2)
			holds(t, db, "")
		}
	}
}

// No more than 256 keys are written, gone ones, too; what is written for one of them again is none more (P16.3).
func TestMaxBatch(t *testing.T) {
	d := vdisk.New(never)
	db := newOver(t, openStore(t, d, roomy))
	x := begin(t, db)
	key := func(i int) []byte { return append(sized(199), byte(i)) }
	for i := range 256 {
		if i%3 == 0 {
			is(t, "Delete", x.Delete(key(i)), api.OK)
		}
		if i%3 > 0 || i%2 == 0 {
			is(t, "Put", x.Put(key(i), sized(4096)), api.OK)
		}
	}
	for range 2 {
		is(t, "Put", x.Put([]byte("more"), nil), api.ErrLong)
		is(t, "Delete", x.Delete([]byte("more")), api.ErrLong)
		same(t, "more", get(t, x, "more"), "")
		for i := range 256 {
			if i%2 == 0 {
				is(t, "Put", x.Put(key(i), nil), api.OK)
				is(t, "Delete", x.Delete(key(i)), api.OK)
			}
			is(t, "Put", x.Put(key(i), sized(4096)), api.OK)
		}
	}
	// Those that are gone stay among them.
	is(t, "Delete", x.Delete(key(0)), api.OK)
	is(t, "Put", x.Put([]byte("more"), nil), api.ErrLong)
	commits(t, x, 1)
	x = begin(t, newOver(t, openStore(t, d, roomy)))
	pairs, errno := x.Scan(nil, nil)
	is(t, "Scan", errno, api.OK)
	if len(pairs) != 255 {
		t.Fatalf("%d pairs", len(pairs))
	}
	for i, p := range pairs {
		if !bytes.Equal(p.Key, key(i+1)) || !bytes.Equal(p.Value, sized(4096)) {
			t.Fatalf("pair %d: %q and %d bytes", i, p.Key, len(p.Value))
		}
	}
}

// What was written is in the store as one batch, one write a key, by rising keys, gone ones, too: a second store to which it is written so is the same on the disk (P16.4).
func TestBatch(t *testing.T) {
	disks := []*vdisk.Disk{vdisk.New(never), vdisk.New(never)}
	db, twin := newOver(t, openStore(t, disks[0], roomy)), openStore(t, disks[1], roomy)
	for i, c := range []struct {
		texts []string
		want  []api.Op
	}{
		{[]string{"b=1", "a=2"}, []api.Op{put("a", "2"), put("b", "1")}},
		{[]string{"b", "c=1", "b=2", "c", "aa=3", "\xff=4", "\x00=5", "aa=6"}, []api.Op{put("\x00", "5"), put("aa", "6"), put("b", "2"), gone("c"), put("\xff", "4")}},
		{[]string{"nowhere"}, []api.Op{gone("nowhere")}},
		{[]string{"aa=6"}, []api.Op{put("aa", "6")}},
		{[]string{"d=", "d1=", "d0", "d\x00="}, []api.Op{put("d", ""), put("d\x00", ""), gone("d0"), put("d1", "")}},
	} {
		x := begin(t, db)
		puts(t, x, c.texts...)
		commits(t, x, i+1)
		_, errno := twin.Write(c.want)
		is(t, "Write", errno, api.OK)
		same(t, "the disk", onDisk(disks[0]), onDisk(disks[1]))
	}
	before := onDisk(disks[0])
	x := begin(t, db)
	same(t, "a", get(t, x, "a"), "a=2")
	puts(t, x, "a=3")
	is(t, "Abort", x.Abort(), api.OK)
	commits(t, begin(t, db), 5)
	same(t, "the disk", onDisk(disks[0]), before)
}

func put(key, value string) api.Op { return api.Op{Key: []byte(key), Value: []byte(value)} }

func gone(key string) api.Op { return api.Op{Key: []byte(key), Dead: true} }

// A transaction that has ended answers ErrDone to all, ahead of all else, however it ended (P16.2 to P16.4).
func TestDone(t *testing.T) {
	for _, end := range endings(t) {
		db := base(t)
		x := begin(t, db)
		same(t, "a", get(t, x, "a"), "")
		writes(t, db, "a=1")
		end(x)
		before := lastOf(t, db)
		refusesAll(t, x, api.ErrDone)
		lowIs(t, db, before)
		holds(t, db, "a=1")
	}
}

// What was aborted, in conflict or refused leaves nothing: neither what it wrote nor a conflict of others with it (P16.4, P2).
func TestNoTrace(t *testing.T) {
	for _, end := range endings(t)[:2] {
		db := base(t)
		writes(t, db, "a=1")
		reader, x, beaten := begin(t, db), begin(t, db), begin(t, db)
		same(t, "all", scan(t, reader, "b", ""), "")
		same(t, "a", get(t, beaten, "a"), "a=1")
		puts(t, x, "a=x", "b=x", "c=x")
		puts(t, beaten, "b=y", "c=y")
		end(x)
		holds(t, db, "a=1")
		writes(t, db, "a=2")
		refused(t, beaten, api.ErrConflict)
		holds(t, db, "a=2")
		puts(t, reader, "c=z")
		commits(t, reader, 3)
		holds(t, db, "a=2 c=z")
	}
}
