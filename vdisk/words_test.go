package vdisk_test

import (
	"bytes"
	"math/rand"
	"slices"
	"strconv"
	"testing"

	"usance/api"
	"usance/vdisk"
)

// words is the chapter, told another way: a disk as a list of files in two halves, with all changes that were done.
type words struct {
	files []halves
	plan  api.Plan
	done  []string
	down  bool
}

// halves is a file: what is synced, and what isn't.
type halves struct {
	name        string
	firm, loose []byte
}

func (w *words) place(name string) int {
	return slices.IndexFunc(w.files, func(f halves) bool { return f.name == name })
}

func (w *words) remove(name string) {
	w.files = slices.DeleteFunc(w.files, func(f halves) bool { return f.name == name })
}

// do is a change of the file from; only Rename has another name.
func (w *words) do(what, from, to string, b []byte) api.Errno {
	if w.down {
		return api.ErrCrashed
	}
	if what != "Rename" {
		to = from
	}
	for _, name := range []string{from, to} {
		if name == "A" || name == "" {
			return api.ErrFileName
		}
	}
	at := w.place(from)
	if at < 0 && what != "Append" {
		return api.ErrNoFile
	}
	if what == "Append" {
		all := bytes.Clone(b)
		for _, f := range w.files {
			all = slices.Concat(all, f.firm, f.loose)
		}
		if w.plan.Room >= 0 && len(all) > w.plan.Room {
			return api.ErrFull
		}
	}
	if w.plan.Ops >= 0 && len(w.done) == w.plan.Ops {
		w.down = true
		return api.ErrCrashed
	}
	w.done = append(w.done, what)
	w.change(what, at, from, to, b)
	return api.OK
}

func (w *words) change(what string, at int, from, to string, b []byte) {
	switch what {
	case "Append":
		if at < 0 {
			w.files = append(w.files, halves{name: from})
			at = len(w.files) - 1
		}
		w.files[at].loose = slices.Concat(w.files[at].loose, b)
	case "Sync":
		w.files[at].firm = slices.Concat(w.files[at].firm, w.files[at].loose)
		w.files[at].loose = nil
	case "Delete":
		w.remove(from)
	case "Rename":
		f := w.files[at]
		w.remove(from)
		w.remove(to)
		f.name = to
		w.files = append(w.files, f)
	}
}

func (w *words) sort() {
	slices.SortFunc(w.files, func(a, b halves) int { return bytes.Compare([]byte(a.name), []byte(b.name)) })
}

func (w *words) revive(p api.Plan) {
	w.sort()
	numbers := w.plan.Keep
	for i := range w.files {
		f := &w.files[i]
		if len(f.loose) == 0 {
			continue
		}
		if len(numbers) > 0 {
			f.firm = slices.Concat(f.firm, f.loose[:keeps(numbers[0], len(f.loose))])
			numbers = numbers[1:]
		}
		f.loose = nil
	}
	w.plan, w.done, w.down = p, nil, false
}

func (w *words) dump() []api.File {
	w.sort()
	var files []api.File
	for _, f := range w.files {
		files = append(files, api.File{Name: f.name, Data: slices.Concat(f.firm, f.loose), Synced: len(f.firm)})
	}
	return files
}

// both are a disk and the words, told the same.
type both struct {
	t    *testing.T
	disk *vdisk.Disk
	word *words
	path []string
}

func newBoth(t *testing.T, p api.Plan) *both {
	return &both{t: t, disk: vdisk.New(p), word: &words{plan: p}}
}

// change tells a change to both.
func (x *both) change(what, from, to string, b []byte) {
	x.path = append(x.path, what+" "+from+" "+to+" "+strconv.Itoa(len(b)))
	var got api.Errno
	switch what {
	case "Append":
		got = x.disk.Append(from, b)
	case "Sync":
		got = x.disk.Sync(from)
	case "Delete":
		got = x.disk.Delete(from)
	case "Rename":
		got = x.disk.Rename(from, to)
	}
	if want := x.word.do(what, from, to, b); got != want {
		x.t.Fatalf("%q answered %d, not %d", x.path, got, want)
	}
}

func (x *both) revive(p api.Plan) {
	x.path = append(x.path, "Revive")
	x.word.revive(p)
	if got := x.disk.Revive(p); got != api.OK {
		x.t.Fatalf("%q answered %d", x.path, got)
	}
}

// agree holds what both tell of their files against each other.
func (x *both) agree() {
	want := x.word.dump()
	if got := x.disk.Dump(); told(got) != told(want) {
		x.t.Fatalf("%q: the disk has %s, not %s", x.path, told(got), told(want))
	}
	list, errno := x.disk.List()
	if x.word.down {
		if len(list) > 0 || errno != api.ErrCrashed {
			x.t.Fatalf("%q: List %v %d", x.path, list, errno)
		}
		return
	}
	if len(list) != len(want) || errno != api.OK {
		x.t.Fatalf("%q: List %v %d", x.path, list, errno)
	}
	for i, f := range want {
		if b, errno := x.disk.Read(f.Name); list[i] != f.Name || !bytes.Equal(b, f.Data) || errno != api.OK {
			x.t.Fatalf("%q: List %v, Read(%s) %q %d", x.path, list, f.Name, b, errno)
		}
	}
}

// Every short way through a few changes, under every small plan, is as the words tell it.
func TestShortWays(t *testing.T) {
	steps := []func(x *both){
		func(x *both) { x.change("Append", "a", "", []byte("12")) },
		func(x *both) { x.change("Append", "b", "", []byte("3")) },
		func(x *both) { x.change("Append", "b", "", nil) },
		func(x *both) { x.change("Sync", "a", "", nil) },
		func(x *both) { x.change("Rename", "a", "b", nil) },
		func(x *both) { x.change("Rename", "b", "b", nil) },
		func(x *both) { x.change("Delete", "b", "", nil) },
		func(x *both) { x.revive(api.Plan{Ops: 1, Room: 3, Keep: []int{2}}) },
	}
	const long = 4
	ways := 1
	for range long {
		ways *= len(steps)
	}
	for ops := -1; ops <= 3; ops++ {
		for room := -1; room <= 4; room++ {
			for way := range ways {
				x := newBoth(t, api.Plan{Ops: ops, Room: room, Keep: []int{1, -1}})
				for rest := way; len(x.path) < long; rest /= len(steps) {
					steps[rest%len(steps)](x)
				}
				x.agree()
				x.revive(never)
				x.agree()
			}
		}
	}
}

// Long ways by chance, the same ones each time.
func TestLongWays(t *testing.T) {
	names := []string{"a", "aa", "b", "c.log", "c.tmp", "-", "A", ""}
	whats := []string{"Append", "Append", "Append", "Sync", "Rename", "Delete"}
	r := rand.New(rand.NewSource(7))
	plan := func() api.Plan {
		p := api.Plan{Ops: r.Intn(40) - 3, Room: r.Intn(60) - 10}
		for range r.Intn(5) {
			p.Keep = append(p.Keep, r.Intn(41)-20)
		}
		return p
	}
	for range 300 {
		x := newBoth(t, plan())
		for range 100 {
			b := make([]byte, r.Intn(9))
			r.Read(b)
			x.change(whats[r.Intn(len(whats))], names[r.Intn(len(names))], names[r.Intn(len(names))], b)
			x.agree()
			if x.word.down && r.Intn(3) == 0 || r.Intn(30) == 0 {
				x.revive(plan())
				x.agree()
			}
		}
	}
}
