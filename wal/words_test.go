package wal_test

import (
	"fmt"
	"math/rand"
	"regexp"
	"slices"
	"strconv"
	"strings"
	"testing"

	"usance/api"
	"usance/frame"
	"usance/vdisk"
	"usance/wal"
)

// words is the chapter, told another way: each call is a list of changes, made from the files as they stand ahead of it, and then done up to the first that the disk refuses.
type words struct {
	disk   *vdisk.Disk
	size   int
	number int
}

// change is a change of the disk, by name; to is a rename's alone.
type change struct{ what, from, to, data string }

var segmentName = regexp.MustCompile(`^w([0-9]{6})\.log$`)

func nameOf(number int) string { return fmt.Sprintf("w%06d.log", number) }

// files are the bytes that stand on the disk, by name.
func (w *words) files() map[string]string {
	files := map[string]string{}
	for _, f := range w.disk.Dump() {
		files[f.Name] = string(f.Data)
	}
	return files
}

// segments are the numbers of those that stand on the disk, rising.
func (w *words) segments() []int {
	var numbers []int
	for name := range w.files() {
		if m := segmentName.FindStringSubmatch(name); m != nil {
			if n, _ := strconv.Atoi(m[1]); n > 0 {
				numbers = append(numbers, n)
			}
		}
	}
	slices.Sort(numbers)
	return numbers
}

// do does the changes, up to the first that is refused, and answers how many were done.
func (w *words) do(changes []change) (int, api.Errno) {
	for i, c := range changes {
		var errno api.Errno
		switch c.what {
		case "Append":
			errno = w.disk.Append(c.from, []byte(c.data))
		case "Sync":
			errno = w.disk.Sync(c.from)
		case "Rename":
			errno = w.disk.Rename(c.from, c.to)
		case "Delete":
			errno = w.disk.Delete(c.from)
		}
		if errno != api.OK {
			return i, errno
		}
	}
	return len(changes), api.OK
}

func (w *words) open(size int) ([]string, api.Errno) {
	if _, errno := w.disk.List(); errno != api.OK {
		return nil, errno
	}
	files, numbers := w.files(), w.segments()
	var changes []change
	if _, ok := files["w.tmp"]; ok {
		changes = append(changes, change{what: "Delete", from: "w.tmp"})
	}
	var records []string
	for i, n := range numbers {
		payloads, end, errno := frame.All([]byte(files[nameOf(n)]))
		records = append(records, asTexts(payloads)...)
		if errno == api.OK {
			continue
		}
		for j := len(numbers) - 1; j > i; j-- {
			changes = append(changes, change{what: "Delete", from: nameOf(numbers[j])})
		}
		numbers = numbers[:i+1]
		changes = append(changes, change{what: "Append", from: "w.tmp", data: files[nameOf(n)][:end]}, change{what: "Sync", from: "w.tmp"}, change{"Rename", "w.tmp", nameOf(n), ""})
		break
	}
	next := 1
	for _, n := range numbers {
		changes = append(changes, change{what: "Sync", from: nameOf(n)})
		next = n + 1
	}
	if _, errno := w.do(changes); errno != api.OK {
		return nil, errno
	}
	if next > 999999 {
		return nil, api.ErrLong
	}
	w.size, w.number = size, next
	return records, api.OK
}

// next is the segment to which the next record goes, by what its file has.
func (w *words) next() int {
	if len(w.files()[nameOf(w.number)]) >= w.size {
		return w.number + 1
	}
	return w.number
}

func (w *words) append(record string) api.Errno {
	next := w.next()
	if len(record) > 2097152 || next > 999999 {
		return api.ErrLong
	}
	changes := []change{{what: "Append", from: nameOf(next), data: framed(record)}}
	if next > w.number {
		changes = append([]change{{what: "Sync", from: nameOf(w.number)}}, changes...)
	}
	done, errno := w.do(changes)
	// It is begun when what is ahead of the last change, its record, is done.
	if done >= len(changes)-1 {
		w.number = next
	}
	return errno
}

func (w *words) sync() api.Errno {
	if w.files()[nameOf(w.number)] == "" {
		return api.OK
	}
	return w.disk.Sync(nameOf(w.number))
}

func (w *words) drop(below int) api.Errno {
	if _, errno := w.disk.List(); errno != api.OK {
		return errno
	}
	var changes []change
	for _, n := range w.segments() {
		if n < below && n != w.number {
			changes = append(changes, change{what: "Delete", from: nameOf(n)})
		}
	}
	_, errno := w.do(changes)
	return errno
}

// both are a log and the words, each on a disk of its own, told the same.
type both struct {
	t    *testing.T
	disk *vdisk.Disk
	log  *wal.Log
	word *words
	path []string
}

func newBoth(t *testing.T, p api.Plan, files ...api.File) *both {
	return &both{t: t, disk: of(t, p, files...), word: &words{disk: of(t, p, files...)}}
}

// agree holds what both answered, and what they left, against each other.
func (x *both) agree(what string, got, want api.Errno) {
	x.path = append(x.path, what)
	if got != want {
		x.t.Fatalf("%q answered %d, not %d", x.path, got, want)
	}
	if got, want := told(x.disk.Dump()), told(x.word.disk.Dump()); got != want {
		x.t.Fatalf("%q: the disk has\n%s, not\n%s", x.path, got, want)
	}
	if x.log != nil && x.log.Segment() != x.word.next() {
		x.t.Fatalf("%q: Segment %d, not %d", x.path, x.log.Segment(), x.word.next())
	}
}

func (x *both) open(size int) {
	l, records, got := wal.Open(x.disk, "w", size)
	texts, want := x.word.open(size)
	x.log = l
	if framed(asTexts(records)...) != framed(texts...) || (l == nil) != (want != api.OK) {
		x.t.Fatalf("%q, Open: %v %q, not %q", x.path, l, records, texts)
	}
	x.agree("Open "+strconv.Itoa(size), got, want)
}

func (x *both) append(record string) {
	got, want := x.log.Append([]byte(record)), x.word.append(record)
	x.agree("Append "+strconv.Itoa(len(record)), got, want)
}

func (x *both) sync() {
	got, want := x.log.Sync(), x.word.sync()
	x.agree("Sync", got, want)
}

func (x *both) drop(below int) {
	got, want := x.log.Drop(below), x.word.drop(below)
	x.agree("Drop "+strconv.Itoa(below), got, want)
}

// revive begins both disks anew, with no log on them.
func (x *both) revive(p api.Plan) {
	x.log = nil
	x.disk.Revive(p)
	x.word.disk.Revive(p)
	x.agree("Revive", api.OK, api.OK)
}

// tamper changes both disks past the log, which is gone then.
func (x *both) tamper(c change) {
	x.log = nil
	_, want := x.word.do([]change{c})
	_, got := (&words{disk: x.disk}).do([]change{c})
	x.agree(c.what+" "+c.from, got, want)
}

// Every short way through a few calls, under every small plan, is as the words tell it.
func TestShortWays(t *testing.T) {
	steps := []func(x *both){
		func(x *both) { x.append("") },
		func(x *both) { x.append("ab") },
		func(x *both) { x.sync() },
		func(x *both) { x.drop(2) },
		func(x *both) { x.drop(9) },
		func(x *both) { x.open(9) },
	}
	const long = 4
	ways := 1
	for range long {
		ways *= len(steps)
	}
	begin := [][]api.File{nil, {file("w.tmp", "x", 0), loose("w000001.log", "", "a"), file("w000002.log", framed("b")+"x", 3), loose("w000003.log", "c")}}
	for _, files := range begin {
		for ops := -1; ops <= 9; ops++ {
			for _, room := range []int{-1, 19, 27} {
				for way := range ways {
					x := newBoth(t, api.Plan{Ops: ops, Room: -1, Keep: []int{3}}, files...)
					x.open(1)
					if x.log == nil {
						break // all ways end here
					}
					if room >= 0 {
						x.revive(api.Plan{Ops: ops, Room: room, Keep: []int{9}})
						x.open(9)
					}
					if x.log == nil {
						break
					}
					walk(x, steps, way, long)
					x.revive(never)
					x.open(1)
				}
			}
		}
	}
}

// walk takes the steps that the number tells, up to one that leaves no log.
func walk(x *both, steps []func(x *both), way, long int) {
	for range long {
		steps[way%len(steps)](x)
		way /= len(steps)
		if x.log == nil {
			return
		}
	}
}

// Long ways by chance, the same ones each time; the disk is changed past the log too, ahead of opening.
func TestLongWays(t *testing.T) {
	r := rand.New(rand.NewSource(8))
	plan := func() api.Plan {
		p := api.Plan{Ops: r.Intn(60) - 5, Room: r.Intn(400) - 40}
		for range r.Intn(4) {
			p.Keep = append(p.Keep, r.Intn(60))
		}
		return p
	}
	numbers := []int{0, 1, 2, 3, 5, 8, 99, 999997, 999998, 999999}
	name := func() string {
		if n := r.Intn(12); n > 0 {
			return nameOf(numbers[r.Intn(min(n, len(numbers)))])
		}
		return "w.tmp"
	}
	for range 1500 {
		x := newBoth(t, plan())
		for range 60 {
			switch n := r.Intn(40); {
			case x.log == nil && n < 8:
				data := framed(strings.Repeat("t", r.Intn(5)))
				x.tamper(change{[]string{"Append", "Append", "Sync", "Rename", "Delete"}[r.Intn(5)], name(), name(), data[:len(data)-r.Intn(9)/6]})
			case x.log == nil && n < 12 || n == 0:
				x.revive(plan())
			case x.log == nil || n < 2:
				x.open([]int{1, 8, 9, 20, 30, 50}[r.Intn(6)])
			case n < 6:
				x.sync()
			case n < 9:
				x.drop(x.log.Segment() + r.Intn(6) - 4)
			default:
				x.append(strings.Repeat("r", r.Intn(12)))
			}
		}
	}
}
