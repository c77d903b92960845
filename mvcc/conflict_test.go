package mvcc_test

import (
	"fmt"
	"strings"
	"testing"

	"usance/api"
	"usance/mvcc"
	"usance/vdisk"
)

// looks are ways of looking at keys and ranges; each with those of the keys a, b, bb, c, d, e and z that it looks at.
func looks(t *testing.T) []struct {
	what string
	look func(*mvcc.Txn)
	at   string
} {
	gets := func(keys ...string) func(*mvcc.Txn) {
		return func(x *mvcc.Txn) {
			for _, key := range keys {
				get(t, x, key)
			}
		}
	}
	scans := func(bounds ...string) func(*mvcc.Txn) {
		return func(x *mvcc.Txn) {
			for i := 0; i < len(bounds); i += 2 {
				scan(t, x, bounds[i], bounds[i+1])
			}
		}
	}
	return []struct {
		what string
		look func(*mvcc.Txn)
		at   string
	}{
		{"nothing", gets(), ""},
		{"a key that is there", gets("b"), " b "},
		{"a key that isn't there", gets("c"), " c "},
		{"keys", gets("a", "e", "a"), " a e "},
		{"a key beside others", gets("bbb", "ab", "b\x00"), ""},
		{"its own write", func(x *mvcc.Txn) { puts(t, x, "b=own"); get(t, x, "b") }, " b "},
		{"its own delete", func(x *mvcc.Txn) { puts(t, x, "b"); get(t, x, "b") }, " b "},
		{"a key ahead of its own write", func(x *mvcc.Txn) { get(t, x, "b"); puts(t, x, "b=own") }, " b "},
		{"its own write, without looking", func(x *mvcc.Txn) { puts(t, x, "b=own", "c") }, ""},
		{"all", scans("", ""), " a b bb c d e z "},
		{"all, but two keys", scans("", "x", "yy", ""), " a b bb c d e z "},
		{"a range", scans("b", "d"), " b bb c "},
		{"a range without pairs", scans("c", "d"), " c "},
		{"a range of one key", scans("bb", "bb\x00"), " bb "},
		{"from a key on", scans("bb", "f", "yy", ""), " bb c d e z "},
		{"up to a key", scans("", "bb"), " a b "},
		{"between keys", scans("ba", "bb"), ""},
		{"two ranges", scans("", "b", "d", "f", "z", ""), " a d e z "},
		{"two ranges that overlap", scans("a", "c", "bb", "d"), " a b bb c "},
		{"a range twice", scans("b", "c", "b", "c"), " b bb "},
		{"ranges without keys", scans("c", "b", "b", "b", "d", "a"), ""},
		{"ranges beyond", scans("f", "x", "z\x00", "", "", "a"), ""},
		{"its own writes in a range", func(x *mvcc.Txn) { puts(t, x, "b=own", "c=own"); scan(t, x, "b", "c") }, " b bb "},
		{"a key and a range", func(x *mvcc.Txn) { get(t, x, "a"); scan(t, x, "d", "x"); scan(t, x, "z", "") }, " a d e z "},
	}
}

// others are what other commits write, a key and others beside it.
func others(key string) [][][]string {
	return [][][]string{
		{{key + "=other"}},
		{{key}},
		{{key + "="}},
		{{"y=1"}, {key + "=other", "y=2"}, {"y=3"}},
		{{key}, {key + "=1"}},
		{{key + "=1", "x=1", "y=1"}},
	}
}

// A transaction that wrote is in conflict if a commit above its view wrote what it looked at, whatever it wrote, be it the same as ahead of that; else it isn't (P16.4).
func TestConflicts(t *testing.T) {
	for _, c := range looks(t) {
		for _, key := range []string{"a", "b", "bb", "c", "d", "e", "z"} {
			want := api.OK
			if strings.Contains(c.at, " "+key+" ") {
				want = api.ErrConflict
			}
			for i, batches := range others(key) {
				for _, late := range []bool{false, true} {
					what := fmt.Sprintf("%s, %d of %s written, looked late %t", c.what, i, key, late)
					overtakes(t, what, c.look, batches, late, want)
				}
			}
		}
	}
}

// overtakes begins a transaction that looks, ahead of other commits or behind them, and commits it with a write.
func overtakes(t *testing.T, what string, look func(*mvcc.Txn), batches [][]string, late bool, want api.Errno) {
	t.Helper()
	db := base(t)
	writes(t, db, "a=1", "b=2", "bb=3", "e=4")
	x, reader := begin(t, db), begin(t, db)
	if !late {
		look(x)
	}
	for _, batch := range batches {
		writes(t, db, batch...)
	}
	if late {
		look(x)
	}
	puts(t, x, "0=mine")
	before := lastOf(t, db)
	seq, errno := x.Commit()
	is(t, what, errno, want)
	if want == api.OK && seq != before+1 || want != api.OK && seq != 0 {
		t.Fatalf("%s: number %d behind %d", what, seq, before)
	}
	after := begin(t, db)
	if got := get(t, after, "0"); (got != "") != (want == api.OK) {
		t.Fatalf("%s: %q is there", what, got)
	}
	// Who writes nothing is committed, whatever it looked at, and who begins behind the commits, too.
	look(after)
	puts(t, after, "0=mine")
	_, errno = after.Commit()
	is(t, what+", behind", errno, api.OK)
	scan(t, reader, "", "")
	commits(t, reader, 1)
}

// A commit at the view or below it is none above it: what it wrote is seen (P16.4).
func TestNoConflictBelow(t *testing.T) {
	db := base(t)
	old := begin(t, db)
	for i := range 10 {
		writes(t, db, fmt.Sprintf("a=%d", i))
		x := begin(t, db)
		same(t, "a", get(t, x, "a"), fmt.Sprintf("a=%d", i))
		same(t, "all", scan(t, x, "", ""), fmt.Sprintf("a=%d", i))
		puts(t, x, "a=next")
		commits(t, x, 2*i+2)
	}
	same(t, "a", get(t, old, "a"), "")
	puts(t, old, "b=x")
	refused(t, old, api.ErrConflict)
}

// Of several at one view the first one that commits is ahead of those that looked at what it wrote; each order, each pair.
func TestFirstCommits(t *testing.T) {
	for _, order := range orders(4) {
		db := base(t)
		writes(t, db, "k0=0", "k1=0", "k2=0", "k3=0")
		var open []*mvcc.Txn
		for i := range 4 {
			x := begin(t, db)
			// Each looks at the next one's key and writes its own.
			get(t, x, fmt.Sprintf("k%d", (i+1)%4))
			puts(t, x, fmt.Sprintf("k%d=new", i))
			open = append(open, x)
		}
		committed, seq := map[int]bool{}, 1
		for _, i := range order {
			if committed[(i+1)%4] {
				refused(t, open[i], api.ErrConflict)
				continue
			}
			seq++
			commits(t, open[i], seq)
			committed[i] = true
		}
	}
}

// A transaction that began long ago is held against each commit since; those that began later against theirs alone, and what was let go changes none of that (P16.4).
func TestLongAgo(t *testing.T) {
	db := base(t)
	writes(t, db, "a=0")
	var open []*mvcc.Txn
	for i := range 20 {
		for range 2 {
			x := begin(t, db)
			get(t, x, fmt.Sprintf("k%02d", i))
			puts(t, x, "mine=x")
			open = append(open, x)
		}
		writes(t, db, fmt.Sprintf("k%02d=x", (i+10)%20))
	}
	// The keys k10 to k19 were written ahead of those that look at them, k00 to k09 behind those.
	for i, x := range open {
		if i/2 < 10 {
			refused(t, x, api.ErrConflict)
		} else if i%2 == 0 {
			commits(t, x, i/2+12)
		} else {
			is(t, "Abort", x.Abort(), api.OK)
		}
	}
}

// Many commits beside a transaction that never ends, and many transactions that end in turn, end soon.
func TestMany(t *testing.T) {
	o := api.Options{Mem: 500, Size: 1000, Block: 50, Fan: 4, Heights: []int{1, 2, 1, 3, 1, 2, 1, 4}}
	db := newOver(t, openStore(t, vdisk.New(never), o))
	old, idle := begin(t, db), begin(t, db)
	scan(t, old, "x", "")
	var open []*mvcc.Txn
	const count = 20000
	for i := range count {
		x := begin(t, db)
		scan(t, x, fmt.Sprintf("k%05d", i), fmt.Sprintf("k%05d\x00", i))
		puts(t, x, fmt.Sprintf("k%05d=x", i))
		commits(t, x, i+1)
		open = append(open, begin(t, db))
		if i%500 == 0 {
			_, errno := db.Compact()
			is(t, "Compact", errno, api.OK)
		}
	}
	puts(t, old, "x=y")
	commits(t, old, count+1)
	lowIs(t, db, 0)
	is(t, "Abort", idle.Abort(), api.OK)
	for i, x := range open {
		lowIs(t, db, i+1)
		commits(t, x, i+1)
	}
	lowIs(t, db, count+1)
}
