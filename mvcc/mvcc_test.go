package mvcc_test

import (
	"fmt"
	"maps"
	"slices"
	"strings"
	"testing"

	"usance/api"
	"usance/lsm"
	"usance/mvcc"
	"usance/vdisk"
)

// never is the plan of a disk that neither crashes nor is full.
var never = api.Plan{Ops: -1, Room: -1}

// small are options under which few writes make many tables.
var small = api.Options{Mem: 3, Size: 2, Block: 2, Fan: 2, Heights: []int{1, 3, 2}}

// roomy are options under which nothing is flushed but by Flush.
var roomy = api.Options{Mem: 4096, Size: 4096, Block: 1024, Fan: 2}

func is(t *testing.T, what string, got, want api.Errno) {
	t.Helper()
	if got != want {
		t.Fatalf("%s: %d, not %d", what, got, want)
	}
}

func openStore(t *testing.T, d *vdisk.Disk, o api.Options) *lsm.Store {
	t.Helper()
	s, errno := lsm.Open(d, o)
	is(t, "Open", errno, api.OK)
	return s
}

func newOver(t *testing.T, s *lsm.Store) *mvcc.DB {
	t.Helper()
	db, errno := mvcc.New(s)
	is(t, "New", errno, api.OK)
	if db == nil {
		t.Fatal("New: OK and no base")
	}
	return db
}

// base is a base over a store of a disk of its own.
func base(t *testing.T) *mvcc.DB {
	t.Helper()
	return newOver(t, openStore(t, vdisk.New(never), small))
}

func begin(t *testing.T, db *mvcc.DB) *mvcc.Txn {
	t.Helper()
	x, errno := db.Begin()
	is(t, "Begin", errno, api.OK)
	if x == nil {
		t.Fatal("Begin: OK and no transaction")
	}
	return x
}

// puts writes in a transaction: "a=x" lets a be x, "a" lets it be gone.
func puts(t *testing.T, x *mvcc.Txn, texts ...string) {
	t.Helper()
	for _, text := range texts {
		key, value, ok := strings.Cut(text, "=")
		if ok {
			is(t, "Put", x.Put([]byte(key), []byte(value)), api.OK)
		} else {
			is(t, "Delete", x.Delete([]byte(key)), api.OK)
		}
	}
}

func commits(t *testing.T, x *mvcc.Txn, want int) {
	t.Helper()
	seq, errno := x.Commit()
	is(t, "Commit", errno, api.OK)
	if seq != want {
		t.Fatalf("Commit: %d, not %d", seq, want)
	}
}

// refused tells that a transaction isn't committed.
func refused(t *testing.T, x *mvcc.Txn, want api.Errno) {
	t.Helper()
	seq, errno := x.Commit()
	is(t, "Commit", errno, want)
	if seq != 0 {
		t.Fatalf("Commit: %d beside an error", seq)
	}
}

// writes commits a transaction that writes this, and answers its number.
func writes(t *testing.T, db *mvcc.DB, texts ...string) int {
	t.Helper()
	x := begin(t, db)
	puts(t, x, texts...)
	seq, errno := x.Commit()
	is(t, "Commit", errno, api.OK)
	return seq
}

// get is what a transaction sees for a key, as a text: "a=x", or nothing.
func get(t *testing.T, x *mvcc.Txn, key string) string {
	t.Helper()
	value, ok, errno := x.Get([]byte(key))
	is(t, "Get", errno, api.OK)
	if !ok {
		if len(value) > 0 {
			t.Fatalf("Get of %q: none, and %q", key, value)
		}
		return ""
	}
	return key + "=" + string(value)
}

// scan is what a transaction sees in a range, as a text: "a=x b=y".
func scan(t *testing.T, x *mvcc.Txn, lo, hi string) string {
	t.Helper()
	pairs, errno := x.Scan([]byte(lo), []byte(hi))
	is(t, "Scan", errno, api.OK)
	return told(pairs)
}

func told(pairs []api.Pair) string {
	var texts []string
	for _, p := range pairs {
		texts = append(texts, string(p.Key)+"="+string(p.Value))
	}
	return strings.Join(texts, " ")
}

func same(t *testing.T, what, got, want string) {
	t.Helper()
	if got != want {
		t.Fatalf("%s: %q, not %q", what, got, want)
	}
}

// holds tells that this is all there is, for those who begin now.
func holds(t *testing.T, db *mvcc.DB, want string) {
	t.Helper()
	x := begin(t, db)
	same(t, "all", scan(t, x, "", ""), want)
	is(t, "Abort", x.Abort(), api.OK)
}

func lowIs(t *testing.T, db *mvcc.DB, want int) {
	t.Helper()
	for range 2 {
		if low := db.Low(); low != want {
			t.Fatalf("Low: %d, not %d", low, want)
		}
	}
}

// onDisk are the disk's files as a text.
func onDisk(d *vdisk.Disk) string {
	var b strings.Builder
	for _, f := range d.Dump() {
		fmt.Fprintf(&b, "%s=%q/%d ", f.Name, f.Data, f.Synced)
	}
	return b.String()
}

// The examples of the chapter.
func TestExamples(t *testing.T) {
	db := base(t)
	one, two := begin(t, db), begin(t, db)
	for _, x := range []*mvcc.Txn{one, two} {
		same(t, "a", get(t, x, "a"), "")
		puts(t, x, "a=x")
	}
	commits(t, one, 1)
	refused(t, two, api.ErrConflict)
	one, two = begin(t, db), begin(t, db)
	same(t, "a", get(t, one, "a"), "a=x")
	puts(t, one, "a=y")
	puts(t, two, "a=z")
	commits(t, one, 2)
	commits(t, two, 3)
	holds(t, db, "a=z")
}

// Of no store there is no base, of no base no transaction, and of neither anything else (P16.1 to P16.4).
func TestNil(t *testing.T) {
	db, errno := mvcc.New(nil)
	is(t, "New", errno, api.ErrNil)
	if db != nil {
		t.Fatal("a base beside an error")
	}
	x, errno := db.Begin()
	is(t, "Begin", errno, api.ErrNil)
	if x != nil {
		t.Fatal("a transaction beside an error")
	}
	lowIs(t, db, 0)
	ok, errno := db.Compact()
	is(t, "Compact", errno, api.ErrNil)
	if ok {
		t.Fatal("Compact: true beside an error")
	}
	refusesAll(t, x, api.ErrNil)
}

// refusesAll tells that every call to the transaction answers one error, whatever else may be wrong.
func refusesAll(t *testing.T, x *mvcc.Txn, want api.Errno) {
	t.Helper()
	for range 2 {
		for _, key := range [][]byte{[]byte("a"), nil, make([]byte, 201)} {
			value, ok, errno := x.Get(key)
			is(t, "Get", errno, want)
			if ok || value != nil {
				t.Fatalf("Get: %q, %t beside an error", value, ok)
			}
			is(t, "Put", x.Put(key, nil), want)
			is(t, "Put", x.Put(key, make([]byte, 4097)), want)
			is(t, "Delete", x.Delete(key), want)
		}
		pairs, errno := x.Scan(nil, nil)
		is(t, "Scan", errno, want)
		if pairs != nil {
			t.Fatalf("Scan: %q beside an error", told(pairs))
		}
		refused(t, x, want)
		is(t, "Abort", x.Abort(), want)
	}
}

// A base over a store that has been written to, and compacted: its view is Last (P16.1).
func TestNewOverOld(t *testing.T) {
	d := vdisk.New(never)
	s := openStore(t, d, small)
	for i := range 7 {
		_, errno := s.Write([]api.Op{{Key: []byte("a"), Value: []byte{byte('0' + i)}}})
		is(t, "Write", errno, api.OK)
	}
	for _, s := range []*lsm.Store{s, openStore(t, d, small)} {
		db := newOver(t, s)
		lowIs(t, db, 7)
		x := begin(t, db)
		same(t, "a", get(t, x, "a"), "a=6")
		lowIs(t, db, 7)
		commits(t, x, 7)
	}
	db := newOver(t, openStore(t, d, small))
	old := begin(t, db)
	if seq := writes(t, db, "b=x"); seq != 8 {
		t.Fatalf("number %d", seq)
	}
	lowIs(t, db, 7)
	same(t, "all", scan(t, old, "", ""), "a=6")
	commits(t, old, 7)
	lowIs(t, db, 8)
}

// endings are the ways in which a transaction may end; of one that has looked at a key that was written since.
func endings(t *testing.T) []func(*mvcc.Txn) {
	return []func(*mvcc.Txn){
		func(x *mvcc.Txn) { is(t, "Abort", x.Abort(), api.OK) },
		func(x *mvcc.Txn) {
			puts(t, x, "b=x")
			is(t, "Abort", x.Abort(), api.OK)
			refused(t, x, api.ErrDone)
		},
		func(x *mvcc.Txn) {
			_, errno := x.Commit()
			is(t, "Commit", errno, api.OK)
		},
		func(x *mvcc.Txn) {
			puts(t, x, "b=x")
			refused(t, x, api.ErrConflict)
			refused(t, x, api.ErrDone)
		},
	}
}

// Low is the least view of those that haven't ended, in whatever order they end and however, or Last (P16.1).
func TestLow(t *testing.T) {
	ways := endings(t)
	for _, order := range orders(5) {
		db := base(t)
		lowIs(t, db, 0)
		// Some have a view of their own, some share one.
		views := []int{1, 1, 2, 3, 3}
		var open []*mvcc.Txn
		for _, view := range views {
			for lastOf(t, db) < view {
				writes(t, db, "a=x")
			}
			open = append(open, begin(t, db))
			lowIs(t, db, 1)
		}
		for _, x := range open {
			same(t, "a", get(t, x, "a"), "a=x")
		}
		last := writes(t, db, "a=x")
		for i, k := range order {
			lowIs(t, db, slices.Min(views))
			ways[(i+k)%len(ways)](open[k])
			views[k] = last
			lowIs(t, db, slices.Min(views))
		}
		if last = writes(t, db, "a=x"); last != 5 {
			t.Fatalf("number %d", last)
		}
		lowIs(t, db, 5)
	}
}

// lastOf is the number of the last commit: the view of one that begins now.
func lastOf(t *testing.T, db *mvcc.DB) int {
	t.Helper()
	x := begin(t, db)
	seq, errno := x.Commit()
	is(t, "Commit", errno, api.OK)
	return seq
}

// orders are all orders of the numbers below n.
func orders(n int) [][]int {
	if n == 0 {
		return [][]int{nil}
	}
	var all [][]int
	for _, rest := range orders(n - 1) {
		for at := range n {
			all = append(all, slices.Insert(slices.Clone(rest), at, n-1))
		}
	}
	return all
}

// A second base that only reads sees what the first one commits, and has its own transactions (P16.1).
func TestTwoBases(t *testing.T) {
	s := openStore(t, vdisk.New(never), small)
	one, two := newOver(t, s), newOver(t, s)
	for i := range 5 {
		writes(t, one, fmt.Sprintf("a=%d", i))
	}
	lowIs(t, two, 5)
	x := begin(t, two)
	writes(t, one, "a=new")
	lowIs(t, one, 6)
	lowIs(t, two, 5)
	same(t, "a", get(t, x, "a"), "a=4")
	commits(t, x, 5)
	lowIs(t, two, 6)
}

// Compact is the store's Compact(Low()): a second store with the same writes, compacted so, is the same on the disk (P16.1).
func TestCompact(t *testing.T) {
	disks := []*vdisk.Disk{vdisk.New(never), vdisk.New(never)}
	s, twin := openStore(t, disks[0], small), openStore(t, disks[1], small)
	db := newOver(t, s)
	var open []*mvcc.Txn
	done := 0
	for i := range 60 {
		op := api.Op{Key: []byte{byte('a' + i*3%7)}, Value: []byte(fmt.Sprint(i))}
		if i%5 == 4 {
			op = api.Op{Key: op.Key, Dead: true}
		}
		x := begin(t, db)
		if op.Dead {
			is(t, "Delete", x.Delete(op.Key), api.OK)
		} else {
			is(t, "Put", x.Put(op.Key, op.Value), api.OK)
		}
		commits(t, x, i+1)
		_, errno := twin.Write([]api.Op{op})
		is(t, "Write", errno, api.OK)
		if i%4 == 0 {
			open = append(open, begin(t, db))
		}
		if i%6 == 5 {
			is(t, "Abort", open[0].Abort(), api.OK)
			open = open[1:]
		}
		low := db.Low()
		ok, errno := db.Compact()
		is(t, "Compact", errno, api.OK)
		want, errno := twin.Compact(low)
		is(t, "Compact", errno, api.OK)
		if ok != want || s.Mark() != low || s.Mark() != twin.Mark() || onDisk(disks[0]) != onDisk(disks[1]) {
			t.Fatalf("Compact with low %d: %t, not %t, mark %d, not %d", low, ok, want, s.Mark(), twin.Mark())
		}
		if ok {
			done++
		}
	}
	if done < 10 || len(open) < 3 {
		t.Fatalf("compacted %d times, %d are open", done, len(open))
	}
}

// The store's errors of Compact are answered as they are (P16.1, R7).
func TestCompactRefused(t *testing.T) {
	for want, plan := range map[api.Errno]api.Plan{api.ErrFull: {Ops: -1, Room: 0}, api.ErrCrashed: {Ops: 0, Room: -1}} {
		d := vdisk.New(never)
		db := newOver(t, openStore(t, d, small))
		for i := range 12 {
			writes(t, db, fmt.Sprintf("a=%d", i))
		}
		is(t, "Revive", d.Revive(plan), api.OK)
		ok, errno := db.Compact()
		is(t, "Compact", errno, want)
		if ok {
			t.Fatal("Compact: true beside an error")
		}
		holds(t, db, "a=11")
	}
}

// Each sees what was there when it began, whatever is committed, flushed and compacted since; who begins behind a commit sees it (P16.1, P16.2, P2).
func TestViews(t *testing.T) {
	d := vdisk.New(never)
	s := openStore(t, d, small)
	db := newOver(t, s)
	var open []*mvcc.Txn
	var views []int
	var want []string
	now := map[string]string{}
	for i := range 30 {
		key, gone := string(rune('a'+i*3%8)), string(rune('a'+(i*5+1)%8))
		texts := []string{fmt.Sprintf("%s=%d", key, i)}
		now[key] = texts[0]
		if gone != key {
			texts = append(texts, gone)
			delete(now, gone)
		}
		seq := writes(t, db, texts...)
		if i%7 == 3 {
			is(t, "Flush", s.Flush(), api.OK)
		}
		_, errno := db.Compact()
		is(t, "Compact", errno, api.OK)
		open, views, want = append(open, begin(t, db)), append(views, seq), append(want, allOf(now))
		for k, x := range open {
			same(t, fmt.Sprintf("view %d at %d", views[k], seq), scan(t, x, "", ""), want[k])
			same(t, "c to f", scan(t, x, "c", "f"), between(want[k], "c", "f"))
			for c := 'a'; c < 'i'; c++ {
				same(t, string(c), get(t, x, string(c)), between(want[k], string(c), string(c+1)))
			}
		}
		if i%3 == 2 {
			commits(t, open[0], views[0])
			open, views, want = open[1:], views[1:], want[1:]
		}
	}
}

// allOf are the texts of a map, by rising keys.
func allOf(texts map[string]string) string {
	var all []string
	for _, key := range slices.Sorted(maps.Keys(texts)) {
		all = append(all, texts[key])
	}
	return strings.Join(all, " ")
}

// between are the pairs of a text whose keys are not below lo and below hi, an empty hi being no bound.
func between(all, lo, hi string) string {
	return strings.Join(slices.DeleteFunc(strings.Split(all, " "), func(text string) bool {
		key, _, _ := strings.Cut(text, "=")
		return key < lo || hi != "" && key >= hi
	}), " ")
}
