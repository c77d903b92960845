package mvcc_test

import (
	"fmt"
	"testing"

	"usance/api"
	"usance/lsm"
	"usance/mvcc"
	"usance/vdisk"
)

// Where the store refuses what is committed, that is answered, nothing of it is there, and the transaction has ended all the same (P16.4, R7).
func TestStoreRefuses(t *testing.T) {
	for want, plan := range map[api.Errno]api.Plan{api.ErrFull: {Ops: -1, Room: 100}, api.ErrCrashed: {Ops: 0, Room: -1}} {
		d := vdisk.New(never)
		db := newOver(t, openStore(t, d, roomy))
		writes(t, db, "a=1")
		x, reader := begin(t, db), begin(t, db)
		same(t, "a", get(t, reader, "a")+get(t, reader, "b"), "a=1")
		puts(t, x, "a=2", "b="+string(sized(200)))
		is(t, "Revive", d.Revive(plan), api.OK)
		refused(t, x, want)
		refusesAll(t, x, api.ErrDone)
		lowIs(t, db, 1)
		holds(t, db, "a=1")
		// Who wrote nothing needs no disk.
		commits(t, begin(t, db), 1)
		if want == api.ErrCrashed {
			puts(t, reader, "b=x")
			refused(t, reader, want)
			continue
		}
		// Nobody is in conflict with what isn't there.
		is(t, "Revive", d.Revive(never), api.OK)
		puts(t, reader, "b=x")
		commits(t, reader, 2)
		holds(t, db, "a=1 b=x")
		lowIs(t, db, 2)
	}
}

// A conflict is told ahead of what the store refuses (P16.4, R2).
func TestConflictAheadOfStore(t *testing.T) {
	d := vdisk.New(never)
	db := newOver(t, openStore(t, d, roomy))
	x := begin(t, db)
	get(t, x, "a")
	puts(t, x, "a=x")
	writes(t, db, "a=1")
	is(t, "Revive", d.Revive(api.Plan{Ops: 0, Room: -1}), api.OK)
	refused(t, x, api.ErrConflict)
}

// brokenBases are bases over stores that open though a byte of their table is turned, and answer ErrCorrupt to who looks.
func brokenBases(t *testing.T) []*mvcc.DB {
	t.Helper()
	d := vdisk.New(never)
	s := openStore(t, d, roomy)
	writes(t, newOver(t, s), "a=1", "b=2", "c=3")
	is(t, "Flush", s.Flush(), api.OK)
	var all []*mvcc.DB
	files := d.Dump()
	for _, f := range files {
		for k := range f.Data {
			f.Data[k] ^= 1
			broken, errno := vdisk.Of(files, never)
			is(t, "Of", errno, api.OK)
			f.Data[k] ^= 1
			s, errno := lsm.Open(broken, roomy)
			if errno != api.OK {
				continue
			}
			if _, errno := s.Scan(nil, nil, s.Last()); errno != api.OK {
				all = append(all, newOver(t, s))
			}
		}
	}
	return all
}

// What the store answers to who looks is answered; a key or a range that couldn't be looked at isn't, so that nobody is in conflict for it; what a transaction wrote itself it sees without asking the store (P16.2, R2, R7).
func TestCorrupt(t *testing.T) {
	all := brokenBases(t)
	if len(all) < 5 {
		t.Fatalf("%d bases", len(all))
	}
	for _, db := range all {
		x, y := begin(t, db), begin(t, db)
		for range 2 {
			for _, key := range []string{"a", "b", "c"} {
				value, ok, errno := x.Get([]byte(key))
				is(t, "Get", errno, api.ErrCorrupt)
				if ok || value != nil {
					t.Fatalf("Get: %q, %t beside an error", value, ok)
				}
			}
			pairs, errno := x.Scan([]byte("b"), nil)
			is(t, "Scan", errno, api.ErrCorrupt)
			if pairs != nil {
				t.Fatalf("Scan: %q beside an error", told(pairs))
			}
		}
		puts(t, y, "b=y")
		same(t, "own", get(t, y, "b"), "b=y")
		puts(t, x, "d=x")
		seq := writes(t, db, "a=z", "b=z", "c=z")
		commits(t, x, seq+1)
		refused(t, y, api.ErrConflict)
	}
}

// keeps are Keeps of few bytes and of many.
func keeps() [][]int {
	return [][]int{nil, {1}, {3, 2, 1}, {23, 4}, {1 << 30, 1 << 30, 1 << 30}}
}

// history is what commits left, by their numbers, as Scan tells it; the first one nothing.
type history []string

// story commits transactions, several at a time, of which some are refused, up to the first that answers ErrCrashed. It answers what they left, and what that one would have.
func story(t *testing.T, db *mvcc.DB, past history) (history, string) {
	t.Helper()
	for i := range 10 {
		x, late, aborted := begin(t, db), begin(t, db), begin(t, db)
		for _, open := range []*mvcc.Txn{x, late, aborted} {
			same(t, "all", scan(t, open, "", ""), past[len(past)-1])
			puts(t, open, fmt.Sprintf("%c=%d", 'a'+i*3%5, i), fmt.Sprintf("%c", 'a'+(i*3+2)%5), fmt.Sprintf("f=%d", len(past)))
		}
		puts(t, late, "late=x")
		is(t, "Abort", aborted.Abort(), api.OK)
		next := scan(t, x, "", "")
		seq, errno := x.Commit()
		if errno != api.OK {
			is(t, "Commit", errno, api.ErrCrashed)
			refused(t, late, api.ErrCrashed)
			return past, next
		}
		if seq != len(past) {
			t.Fatalf("number %d, not %d", seq, len(past))
		}
		past = append(past, next)
		refused(t, late, api.ErrConflict)
		if _, errno := db.Compact(); errno != api.OK {
			is(t, "Compact", errno, api.ErrCrashed)
		}
	}
	return past, ""
}

// Behind a crash at any change, with any of the bytes that weren't synced, all commits that were answered stand, in order, and of one that was going on all or nothing; opened once more it is the same (P3).
func TestCrashes(t *testing.T) {
	whole := map[bool]int{}
	for ops := 0; ; ops++ {
		over := false
		for _, keep := range keeps() {
			d := vdisk.New(api.Plan{Ops: ops, Room: -1, Keep: keep})
			past, going := story(t, newOver(t, openStore(t, d, small)), history{""})
			is(t, "Revive", d.Revive(never), api.OK)
			over = going == ""
			db := newOver(t, openStore(t, d, small))
			if going != "" && lastOf(t, db) == len(past) {
				past = append(past, going)
				whole[true]++
			} else if going != "" {
				whole[false]++
			}
			for range 2 {
				lowIs(t, db, len(past)-1)
				holds(t, db, past[len(past)-1])
				db = newOver(t, openStore(t, d, small))
			}
			story(t, db, past)
		}
		if over {
			break
		}
	}
	if whole[true] == 0 || whole[false] == 0 {
		t.Fatalf("of commits that were going on %d were there, %d not", whole[true], whole[false])
	}
}
