package manifest_test

import (
	"fmt"
	"maps"
	"math/rand"
	"slices"
	"strings"
	"testing"

	"usance/api"
	"usance/manifest"
	"usance/vdisk"
)

// foldWords is P13.1, told another way: each error is looked for in all of the edit, and the tables stand in lists by their IDs.
func foldWords(v api.Version, e api.Edit) (api.Version, api.Errno) {
	among := func(id int) bool {
		return slices.ContainsFunc(v.Tables, func(t api.Table) bool { return t.ID == id })
	}
	found := map[api.Errno]bool{}
	found[api.ErrLong] = len(e.Add) > 1024 || len(e.Drop) > 1024
	found[api.ErrRange] = e.Log < v.Log || e.Seq < v.Seq
	for i, id := range e.Drop {
		found[api.ErrNone] = found[api.ErrNone] || !among(id) || slices.Contains(e.Drop[:i], id)
	}
	for i, t := range e.Add {
		lo, hi := string(t.Lo), string(t.Hi)
		found[api.ErrRange] = found[api.ErrRange] || t.ID <= 0 || t.ID > 999999 || t.Level < 0 || t.Level > 3 || t.Count <= 0
		found[api.ErrKey] = found[api.ErrKey] || lo == "" || hi == "" || len(lo) > 200 || len(hi) > 200 || lo > hi
		found[api.ErrTwice] = found[api.ErrTwice] || among(t.ID) || slices.ContainsFunc(e.Add[:i], func(x api.Table) bool { return x.ID == t.ID })
	}
	for _, errno := range []api.Errno{api.ErrLong, api.ErrNone, api.ErrRange, api.ErrKey, api.ErrTwice} {
		if found[errno] {
			return api.Version{}, errno
		}
	}
	byID := map[int][]api.Table{}
	for _, t := range v.Tables {
		byID[t.ID] = append(byID[t.ID], t)
	}
	for _, id := range e.Drop {
		delete(byID, id)
	}
	next := []int{1, v.Next}
	for _, t := range e.Add {
		byID[t.ID] = append(byID[t.ID], t)
		next = append(next, t.ID+1)
	}
	w := api.Version{Log: e.Log, Seq: e.Seq, Next: slices.Max(next)}
	for _, id := range slices.Sorted(maps.Keys(byID)) {
		w.Tables = append(w.Tables, byID[id]...)
	}
	return w, api.OK
}

// lists are all lists of at most so many of the items, in any order and as often as may be.
func lists[T any](items []T, most int) [][]T {
	all := [][]T{nil}
	for begin := 0; most > 0; most-- {
		end := len(all)
		for _, l := range all[begin:end] {
			for _, x := range items {
				all = append(all, append(slices.Clone(l), x))
			}
		}
		begin = end
	}
	return all
}

// Fold of every short version and every short edit is as the words tell it.
func TestFoldIsAsTheWordsTell(t *testing.T) {
	stands := []api.Table{plain(1), plain(2), table(2, 9, -1, "y", "x"), plain(4), {ID: -1}}
	added := []api.Table{plain(1), plain(3), table(2, 1, 5, "c", "d"), plain(999999), plain(0), table(3, 4, 1, "a", "b"), table(3, 0, 0, "a", "b"), table(5, 0, 1, "b", "a")}
	drops := lists([]int{1, 2, 3, -1}, 2)
	edits := lists(added, 2)
	answered := map[api.Errno]int{}
	number := 0
	for _, tables := range lists(stands, 3) {
		for _, add := range edits {
			for _, drop := range drops {
				number++
				v := api.Version{Tables: tables, Log: number / 7 % 2, Seq: number / 3 % 2, Next: number%5*2 - 2}
				e := api.Edit{Add: add, Drop: drop, Log: 1, Seq: 1}
				if number%11 == 0 {
					e.Log, e.Seq = number/11%2, number/22%2
				}
				got, errno := manifest.Fold(v, e)
				want, wanted := foldWords(v, e)
				if errno != wanted || told(got) != told(want) {
					t.Fatalf("Fold(%s, %v) = %s, %d, not %s, %d", told(v), e, told(got), errno, told(want), wanted)
				}
				answered[errno]++
			}
		}
	}
	for _, errno := range []api.Errno{api.OK, api.ErrNone, api.ErrRange, api.ErrKey, api.ErrTwice} {
		if answered[errno] < 1000 {
			t.Errorf("%d answered %d times", errno, answered[errno])
		}
	}
}

// words are a manifest and what the chapter says of it: what its version may be, and which tables' files the disk has.
type words struct {
	t       *testing.T
	r       *rand.Rand
	disk    *vdisk.Disk
	m       *manifest.Manifest
	now     api.Version
	begun   []string        // versions that may stand besides, as a change was going on
	files   map[string]bool // tables' files
	done    map[api.Errno]int
	crashed bool
}

// edit is an edit by chance, which mostly may be done.
func (w *words) edit() api.Edit {
	e := api.Edit{Log: w.now.Log + w.r.Intn(3), Seq: w.now.Seq + w.r.Intn(1000)}
	for range w.r.Intn(4) {
		lo := strings.Repeat(string('a'+rune(w.r.Intn(3))), 1+w.r.Intn(3))
		hi := strings.Repeat("c", 3+w.r.Intn(198))
		e.Add = append(e.Add, table(w.now.Next+w.r.Intn(9), w.r.Intn(4), 1+w.r.Intn(300), lo, hi))
	}
	for _, x := range w.now.Tables {
		if w.r.Intn(4) == 0 {
			e.Drop = append(e.Drop, x.ID)
		}
	}
	switch w.r.Intn(12) {
	case 0:
		e.Seq -= 1500
	case 1:
		e.Drop = append(e.Drop, w.r.Intn(w.now.Next+1))
	case 2:
		e.Add = append(e.Add, plain(w.r.Intn(w.now.Next+1)))
	}
	return e
}

func (w *words) apply() {
	e := w.edit()
	v, want := foldWords(w.now, e)
	files := onDisk(w.disk)
	got := w.m.Apply(e)
	w.done[got]++
	switch {
	case want != api.OK:
		is(w.t, "Apply", got, want)
	case got == api.ErrCrashed:
		w.crashed = true
		w.begun = append(w.begun, told(v))
	case got == api.ErrFull:
		if onDisk(w.disk) != files {
			w.t.Fatalf("ErrFull: the disk became %s", onDisk(w.disk))
		}
	default:
		is(w.t, "Apply", got, api.OK)
		w.now = v
	}
	has(w.t, w.m, told(w.now))
}

func (w *words) sweep() {
	var want []string
	for name := range w.files {
		if !slices.ContainsFunc(w.now.Tables, func(x api.Table) bool { return fmt.Sprintf("t%06d.tbl", x.ID) == name }) {
			want = append(want, name)
		}
	}
	slices.Sort(want)
	names, errno := w.m.Sweep()
	if errno == api.ErrCrashed {
		w.crashed = true
		if len(names) > 0 {
			w.t.Fatalf("Sweep: %q beside an error", names)
		}
		w.look()
		return
	}
	is(w.t, "Sweep", errno, api.OK)
	if !slices.Equal(names, want) {
		w.t.Fatalf("Sweep of %s: %q, not %q", told(w.now), names, want)
	}
	before := len(w.files)
	if w.look(); len(w.files) != before-len(want) {
		w.t.Fatalf("behind Sweep %d files, not %d", len(w.files), before-len(want))
	}
}

// look looks which tables' files are there.
func (w *words) look() {
	w.files = map[string]bool{}
	for _, f := range w.disk.Dump() {
		if !isOwn(f.Name) {
			w.files[f.Name] = true
		}
	}
}

func (w *words) put() {
	w.disk.Append(manifest.Name(1+w.r.Intn(w.now.Next+9)), nil)
	w.look()
}

// revive begins the disk anew, mostly with a plan of few changes, and opens the manifest until that is done.
func (w *words) revive() {
	for {
		plan := api.Plan{Ops: w.r.Intn(40) - 3, Room: -1}
		if w.r.Intn(4) == 0 {
			plan.Room = w.r.Intn(2000)
		}
		for range w.r.Intn(3) {
			plan.Keep = append(plan.Keep, w.r.Intn(400))
		}
		is(w.t, "Revive", w.disk.Revive(plan), api.OK)
		m, errno := manifest.Open(w.disk)
		w.done[errno]++
		if errno == api.ErrCrashed {
			continue
		}
		is(w.t, "Open", errno, api.OK)
		w.m, w.crashed = m, false
		v := m.Version()
		if told(v) != told(w.now) && !slices.Contains(w.begun, told(v)) {
			w.t.Fatalf("opened as %s, not %s nor %q", told(v), told(w.now), w.begun)
		}
		w.now, w.begun = v, nil
		w.look()
		return
	}
}

// Long ways by chance, the same ones each time, over disks that crash and are full.
func TestLongWays(t *testing.T) {
	done := map[api.Errno]int{}
	for seed := range 600 {
		w := &words{t: t, r: rand.New(rand.NewSource(int64(seed))), disk: vdisk.New(never), now: api.Version{Next: 1}, done: done}
		w.revive()
		for range 60 {
			switch n := w.r.Intn(20); {
			case w.crashed || n == 0:
				w.revive()
			case n < 5:
				w.put()
			case n < 8:
				w.sweep()
			case n == 8: // opened again without a crash
				if m, errno := manifest.Open(w.disk); errno == api.OK {
					w.m = m
					has(t, m, told(w.now))
				} else {
					is(t, "Open", errno, api.ErrCrashed)
					w.crashed = true
				}
			default:
				w.apply()
			}
		}
	}
	for _, errno := range []api.Errno{api.OK, api.ErrCrashed, api.ErrFull, api.ErrNone, api.ErrRange, api.ErrTwice} {
		if done[errno] < 100 {
			t.Errorf("%d answered %d times", errno, done[errno])
		}
	}
}
