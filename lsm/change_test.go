package lsm_test

import (
	"fmt"
	"math"
	"math/rand"
	"slices"
	"strings"
	"testing"

	"usance/api"
	"usance/compact"
	"usance/lsm"
	"usance/manifest"
	"usance/table"
	"usance/vdisk"
)

// filesOf are the names of the disk's files, without those of the manifest.
func filesOf(t *testing.T, d *vdisk.Disk) []string {
	t.Helper()
	names, errno := d.List()
	is(t, "List", errno, api.OK)
	return slices.DeleteFunc(names, func(name string) bool {
		return strings.HasPrefix(name, "m") || strings.HasPrefix(name, "current")
	})
}

// isTidy tells that there are no files but the manifest's and those of the tables that the store has.
func isTidy(t *testing.T, d *vdisk.Disk, s *lsm.Store) {
	t.Helper()
	var want []string
	for _, told := range s.Version().Tables {
		want = append(want, manifest.Name(told.ID))
	}
	if got := filesOf(t, d); !slices.Equal(got, want) {
		t.Fatalf("files %q, not %q", got, want)
	}
}

// entriesOf are the entries of a table on the disk.
func entriesOf(t *testing.T, d *vdisk.Disk, id int) []api.Entry {
	t.Helper()
	opened, errno := table.Open(d, manifest.Name(id))
	is(t, "table.Open", errno, api.OK)
	var entries []api.Entry
	for e, errno := range opened.Entries(nil, nil) {
		is(t, "Entries", errno, api.OK)
		entries = append(entries, e)
	}
	return entries
}

// Flush makes a table of level 0 of what is in memory, and lets the log go; without anything in memory it changes no version (P15.4).
func TestFlush(t *testing.T) {
	d := vdisk.New(never)
	s := open(t, d, roomy)
	is(t, "Flush", s.Flush(), api.OK)
	if got := toldVersion(s.Version()); got != "log 0 seq 0 next 1" || len(d.Dump()) > 0 {
		t.Fatalf("Flush of nothing: %s, %s", got, onDisk(d))
	}
	p := past{}.writes(t, s, "b=1", "c=1").writes(t, s, "b", "d=2")
	for range 2 {
		is(t, "Flush", s.Flush(), api.OK)
		if got := toldVersion(s.Version()); got != `log 1 seq 2 next 2, 1/0/4 "b" "d"` {
			t.Fatalf("version %s", got)
		}
		shows(t, s, p, 0)
		isTidy(t, d, s)
	}
	p = p.writes(t, s, "a=3")
	is(t, "Flush", s.Flush(), api.OK)
	if got := toldVersion(s.Version()); got != `log 1 seq 3 next 3, 1/0/4 "b" "d", 2/0/1 "a" "a"` {
		t.Fatalf("version %s", got)
	}
	shows(t, s, p, 0)
	isTidy(t, d, s)
	shows(t, open(t, d, roomy), p, 3)
}

// What is flushed of a store that was opened anew with a log: all of it, and of a log that is let go nothing again (P15.4, P15.5).
func TestFlushOpened(t *testing.T) {
	d := vdisk.New(never)
	var p past
	for i := range 6 {
		s := open(t, d, roomy)
		shows(t, s, p, len(p))
		p = p.writes(t, s, fmt.Sprintf("a=%d", i), fmt.Sprintf("%c=%d", 'b'+i, i))
		if i%3 < 2 {
			continue
		}
		is(t, "Flush", s.Flush(), api.OK)
		isTidy(t, d, s)
		if v := s.Version(); v.Seq != len(p) || len(v.Tables) != i/3+1 || v.Tables[i/3].Count != 6 {
			t.Fatalf("behind %d writes: %s", i+1, toldVersion(v))
		}
	}
}

// held is the mark that a store with these numbers gets.
func held(mark, least, most int) int {
	switch {
	case mark < least:
		return least
	case mark > most:
		return most
	}
	return mark
}

// compacts compacts the store and tells that this did what the chapter says: layer 14's calls, made anew over what stands on the disk.
func compacts(t *testing.T, d *vdisk.Disk, s *lsm.Store, o api.Options, mark int) bool {
	t.Helper()
	before, want := s.Version(), held(mark, s.Mark(), s.Last())
	ids, level, picked := compact.Pick(before, o.Fan)
	edit := api.Edit{Drop: ids, Log: before.Log, Seq: before.Seq}
	var lists [][]api.Entry
	for _, id := range ids {
		lists = append(lists, entriesOf(t, d, id))
	}
	pieces, errno := compact.Run(lists, want, compact.Bottom(before, ids, level), o.Size)
	is(t, "Run", errno, api.OK)
	for i, p := range pieces {
		edit.Add = append(edit.Add, api.Table{ID: before.Next + i, Level: level, Count: len(p), Lo: p[0].Key, Hi: p[len(p)-1].Key})
	}
	after, errno := manifest.Fold(before, edit)
	is(t, "Fold", errno, api.OK)
	ok, errno := s.Compact(mark)
	is(t, "Compact", errno, api.OK)
	if ok != picked || s.Mark() != want {
		t.Fatalf("Compact(%d): %t and mark %d, not %t and %d", mark, ok, s.Mark(), picked, want)
	}
	if got := toldVersion(s.Version()); got != toldVersion(after) {
		t.Fatalf("Compact(%d) of %s:\n%s, not\n%s", mark, toldVersion(before), got, toldVersion(after))
	}
	for i, p := range pieces {
		if got := entriesOf(t, d, before.Next+i); fmt.Sprint(got) != fmt.Sprint(p) {
			t.Fatalf("table %d: %v, not %v", before.Next+i, got, p)
		}
	}
	for _, f := range d.Dump() {
		if slices.ContainsFunc(ids, func(id int) bool { return f.Name == manifest.Name(id) }) {
			t.Fatalf("%s is left", f.Name)
		}
	}
	return ok
}

// Compact does what Pick tells, once, with mark held within Mark to Last, and the content from there on stays (P15.4).
func TestCompact(t *testing.T) {
	for _, o := range []api.Options{small, {Mem: 2, Size: 1, Block: 1, Fan: 3}, {Mem: 4, Size: 5, Block: 3, Fan: 2}} {
		for _, marks := range [][]int{{0}, {math.MaxInt}, {0, 1, 2, 3, 4, 5, 6, 7, 8, 9}, {30, 5, 20, 0}} {
			d := vdisk.New(never)
			s := open(t, d, o)
			var p past
			done := 0
			for i := range 40 {
				p = p.writes(t, s, fmt.Sprintf("%c=%d", 'a'+i*3%7, i), fmt.Sprintf("%c", 'a'+(i*3+1+i%6)%7))
				if compacts(t, d, s, o, marks[i%len(marks)]) {
					done++
				}
				shows(t, s, p, s.Mark())
			}
			for compacts(t, d, s, o, math.MaxInt) {
				done++
			}
			if done < 8 {
				t.Fatalf("compacted %d times", done)
			}
			shows(t, s, p, len(p))
			is(t, "Flush", s.Flush(), api.OK)
			isTidy(t, d, s)
			shows(t, open(t, d, o), p, len(p))
		}
	}
}

// A mark below nought is refused, and changes none; where there is nothing to be done mark is taken all the same (P15.4).
func TestCompactMark(t *testing.T) {
	s := open(t, vdisk.New(never), roomy)
	p := past{}.writes(t, s, "a=1").writes(t, s, "a=2").writes(t, s, "a=3")
	for _, mark := range []int{-1, math.MinInt} {
		if ok, errno := s.Compact(mark); errno != api.ErrRange || ok {
			t.Fatalf("Compact(%d): %t, %d", mark, ok, errno)
		}
		shows(t, s, p, 0)
	}
	for _, c := range [][2]int{{0, 0}, {2, 2}, {1, 2}, {0, 2}, {math.MaxInt, 3}, {2, 3}} {
		if ok, errno := s.Compact(c[0]); errno != api.OK || ok {
			t.Fatalf("Compact(%d): %t, %d", c[0], ok, errno)
		}
		shows(t, s, p, c[1])
	}
}

// What is gone comes back nowhere: keys are written and let go over and over, and compacted down to the last level at all marks (P15.4).
func TestGone(t *testing.T) {
	deepest := 0
	for fan := 2; fan < 5; fan++ {
		o := api.Options{Mem: 2, Size: 2, Block: 2, Fan: fan}
		d := vdisk.New(never)
		s := open(t, d, o)
		var p past
		for i := range 120 {
			key := 'a' + i*5%8
			if i/8%2 == 0 {
				p = p.writes(t, s, fmt.Sprintf("%c=%d", key, i))
			} else {
				p = p.writes(t, s, fmt.Sprintf("%c", key))
			}
			for more := i%3 == 0; more; more = compacts(t, d, s, o, max(0, i-4)) {
				shows(t, s, p, s.Mark())
			}
			shows(t, s, p, s.Mark())
			for _, told := range s.Version().Tables {
				deepest = max(deepest, told.Level)
			}
		}
		p = p.writes(t, s, "a", "b", "c", "d", "e", "f", "g", "h")
		is(t, "Flush", s.Flush(), api.OK)
		for compacts(t, d, s, o, len(p)) {
		}
		shows(t, s, p, len(p))
	}
	if deepest != api.MaxLevel {
		t.Fatalf("no table below level %d", deepest)
	}
}

// Long ways of all calls, opened anew with other options in between, against what was written (P15.1 to P15.5).
func TestWays(t *testing.T) {
	for seed := range int64(30) {
		r := rand.New(rand.NewSource(seed))
		d := vdisk.New(never)
		o := someOptions(r)
		s := open(t, d, o)
		var p past
		for range 120 {
			switch r.Intn(12) {
			case 0:
				is(t, "Flush", s.Flush(), api.OK)
				isTidy(t, d, s)
			case 1, 2, 3:
				compacts(t, d, s, o, r.Intn(len(p)+2))
			case 4:
				o = someOptions(r)
				version := toldVersion(s.Version())
				s = open(t, d, o)
				if got := toldVersion(s.Version()); got != version {
					t.Fatalf("opened with %s, not %s", got, version)
				}
				shows(t, s, p, len(p))
			default:
				p = p.writes(t, s, someTexts(r)...)
			}
			shows(t, s, p, s.Mark())
		}
	}
}

func someOptions(r *rand.Rand) api.Options {
	return api.Options{Mem: 1 + r.Intn(6), Size: 1 + r.Intn(4), Block: 1 + r.Intn(3), Fan: 2 + r.Intn(2), Heights: r.Perm(4)}
}

// someTexts is a batch of one to four of the first letters.
func someTexts(r *rand.Rand) []string {
	var texts []string
	for _, k := range r.Perm(8)[:1+r.Intn(4)] {
		text := fmt.Sprintf("%c", 'a'+k)
		if r.Intn(3) > 0 {
			text += fmt.Sprintf("=%d", r.Intn(100))
		}
		texts = append(texts, text)
	}
	return texts
}
