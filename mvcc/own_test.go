package mvcc_test

import (
	"bytes"
	"fmt"
	"testing"

	"usance/api"
	"usance/mvcc"
	"usance/vdisk"
)

// spare is a copy of the bytes with room behind them, all of which has one mark.
func spare(b string) []byte {
	s := append(make([]byte, 0, len(b)+8), b...)
	rest := s[len(s):cap(s)]
	for i := range rest {
		rest[i] = '!'
	}
	return s
}

// isWhole tells that bytes that spare made stand as they were.
func isWhole(t *testing.T, s []byte, b string) {
	t.Helper()
	if string(s) != b || len(bytes.Trim(s[len(s):cap(s)], "!")) > 0 {
		t.Fatalf("%q, not %q with its room", s[:cap(s)], b)
	}
}

// spoil writes over bytes, and the room behind them.
func spoil(b []byte) {
	b = b[:cap(b)]
	for i := range b {
		b[i] = '?'
	}
}

// What is handed in stays, and isn't kept (R4).
func TestHandedIn(t *testing.T) {
	db := base(t)
	writes(t, db, "c=3", "d=4")
	x := begin(t, db)
	key, value, dead := spare("a"), spare("x"), spare("c")
	is(t, "Put", x.Put(key, value), api.OK)
	is(t, "Delete", x.Delete(dead), api.OK)
	isWhole(t, key, "a")
	isWhole(t, value, "x")
	isWhole(t, dead, "c")
	spoil(key)
	spoil(value)
	spoil(dead)
	same(t, "all", scan(t, x, "", ""), "a=x d=4")
	commits(t, x, 2)
	holds(t, db, "a=x d=4")
	for _, looked := range []string{"a", "b", "c", "d"} {
		x := begin(t, db)
		key, lo, hi := spare("a"), spare("b"), spare("c")
		if _, _, errno := x.Get(key); errno != api.OK {
			t.Fatal(errno)
		}
		if _, errno := x.Scan(lo, hi); errno != api.OK {
			t.Fatal(errno)
		}
		isWhole(t, key, "a")
		isWhole(t, lo, "b")
		isWhole(t, hi, "c")
		copy(key, "d")
		copy(lo, "c")
		copy(hi, "e")
		last := writes(t, db, looked+"=new")
		puts(t, x, "mine=x")
		if looked < "c" {
			refused(t, x, api.ErrConflict)
		} else {
			commits(t, x, last+1)
		}
	}
}

// What is answered is new memory: whoever writes over it, and over the room behind it, changes nothing, and no two lists of one answer share any (R4).
func TestAnswered(t *testing.T) {
	d := vdisk.New(never)
	db := newOver(t, openStore(t, d, small))
	writes(t, db, "a=1", "b=2", "c=3", "e=5", "f=6")
	x := begin(t, db)
	puts(t, x, "a=own", "d=own", "e", "g=", "h=own")
	const want = "a=own b=2 c=3 d=own f=6 g= h=own"
	before := onDisk(d)
	for range 3 {
		pairs, errno := x.Scan(nil, nil)
		is(t, "Scan", errno, api.OK)
		for i, p := range pairs {
			rest := told(pairs[i+1:])
			spoil(p.Key)
			same(t, "behind a key", told(pairs[i+1:]), rest)
			if bytes.ContainsRune(p.Value, '?') {
				t.Fatalf("pair %d shares its key with its value", i)
			}
			spoil(p.Value)
			same(t, "behind a value", told(pairs[i+1:]), rest)
		}
		for i, p := range pairs {
			if len(bytes.Trim(p.Key, "?")) > 0 || len(bytes.Trim(p.Value, "?")) > 0 {
				t.Fatalf("pair %d: %q, %q", i, p.Key, p.Value)
			}
		}
		clear(pairs[:cap(pairs)])
		for _, key := range []string{"a", "b", "d", "e", "g"} {
			value, _, errno := x.Get([]byte(key))
			is(t, "Get", errno, api.OK)
			spoil(value)
		}
		same(t, "all", scan(t, x, "", ""), want)
		same(t, "the disk", onDisk(d), before)
	}
	commits(t, x, 2)
	holds(t, db, want)
}

// The same calls make the same disks, and answer the same (R5).
func TestSame(t *testing.T) {
	var first []string
	for range 5 {
		d := vdisk.New(never)
		db := newOver(t, openStore(t, d, small))
		var all []string
		var old []*mvcc.Txn
		for i := range 40 {
			x := begin(t, db)
			for k := range 12 {
				puts(t, x, fmt.Sprintf("%c=%d", 'a'+(i+k*5)%23, i))
				puts(t, x, fmt.Sprintf("%c", 'a'+(i+k*7)%23))
			}
			all = append(all, scan(t, x, "c", "s"))
			if i%4 == 3 {
				for _, x := range old {
					puts(t, x, "z=x")
					seq, errno := x.Commit()
					all = append(all, fmt.Sprint(seq, errno))
				}
				old = nil
			}
			get(t, x, fmt.Sprintf("%c", 'a'+i%23))
			old = append(old, x)
			_, errno := db.Compact()
			is(t, "Compact", errno, api.OK)
			all = append(all, onDisk(d))
		}
		if first == nil {
			first = all
		}
		for i := range all {
			same(t, "once more", all[i], first[i])
		}
	}
}
