package mvcc

import (
	"fmt"
	"testing"

	"usance/api"
	"usance/lsm"
	"usance/vdisk"
)

// opened is a base over a store of a disk of its own.
func opened(t *testing.T) *DB {
	t.Helper()
	s, errno := lsm.Open(vdisk.New(api.Plan{Ops: -1, Room: -1}), api.Options{Mem: 500, Size: 500, Block: 50, Fan: 2})
	if errno != api.OK {
		t.Fatal(errno)
	}
	db, errno := New(s)
	if errno != api.OK {
		t.Fatal(errno)
	}
	return db
}

// keeps tells how much the base keeps: views, keys, commits.
func keeps(t *testing.T, db *DB, views, keys, commits int) {
	t.Helper()
	h := db.recent
	if len(db.active) != views || len(h.last) != keys || len(h.keys) != commits {
		t.Fatalf("%d views, %d keys, %d commits, not %d, %d, %d", len(db.active), len(h.last), len(h.keys), views, keys, commits)
	}
	for key, seq := range h.last {
		if _, ok := h.keys[seq][key]; !ok || seq <= db.low {
			t.Fatalf("%s is told to be of %d, low is %d", key, seq, db.low)
		}
	}
}

func written(t *testing.T, db *DB, keys ...string) {
	t.Helper()
	x, _ := db.Begin()
	for _, key := range keys {
		x.Put([]byte(key), nil)
	}
	if _, errno := x.Commit(); errno != api.OK {
		t.Fatal(errno)
	}
}

// Of commits nothing is kept but the last one of each key, above the least view; where nobody is active nothing at all.
func TestKeepsLittle(t *testing.T) {
	db := opened(t)
	keeps(t, db, 0, 0, 0)
	written(t, db, "a", "b")
	keeps(t, db, 0, 0, 0)
	old, _ := db.Begin()
	for i := range 1000 {
		written(t, db, "a", "b", fmt.Sprint(i%10))
		keeps(t, db, 1, min(i+3, 12), min(i+1, 10))
	}
	later, _ := db.Begin()
	twin, _ := db.Begin()
	keeps(t, db, 2, 12, 10)
	written(t, db, "b")
	written(t, db, "c")
	keeps(t, db, 2, 13, 12)
	old.Abort()
	keeps(t, db, 1, 2, 2)
	later.Get([]byte("c"))
	later.Put([]byte("d"), nil)
	if _, errno := later.Commit(); errno != api.ErrConflict {
		t.Fatal(errno)
	}
	keeps(t, db, 1, 2, 2)
	twin.Put([]byte("b"), nil)
	if _, errno := twin.Commit(); errno != api.OK {
		t.Fatal(errno)
	}
	keeps(t, db, 0, 0, 0)
}

// A transaction that has ended keeps nothing of what it wrote and looked at, nor of the base.
func TestEndedKeepsNothing(t *testing.T) {
	db := opened(t)
	for _, end := range []func(x *Txn){func(x *Txn) { x.Abort() }, func(x *Txn) { x.Commit() }} {
		x, _ := db.Begin()
		x.Get([]byte("a"))
		x.Scan(nil, nil)
		x.Scan(nil, nil)
		if len(x.keys) != 1 || len(x.ranges) != 1 {
			t.Fatalf("%d keys, %d ranges", len(x.keys), len(x.ranges))
		}
		x.Put([]byte("a"), nil)
		end(x)
		if x.db != nil || x.writes != nil || x.keys != nil || x.ranges != nil {
			t.Fatalf("%v", *x)
		}
	}
}
