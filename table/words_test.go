package table_test

import (
	"fmt"
	"math"
	"slices"
	"strings"
	"testing"

	"usance/api"
	"usance/table"
	"usance/vdisk"
)

// What may be and what may not, at each bound.
func TestEntriesThatMayBe(t *testing.T) {
	long := strings.Repeat("k", 200)
	value := strings.Repeat("v", 4096)
	for _, v := range []version{
		{key: "a", seq: 1},
		{key: "\x00", seq: 1},
		{key: long, seq: 1},
		{key: "a", seq: 1 << 40},
		{key: "a", seq: 1<<40 - 1, value: value},
		{key: "a", seq: 2, dead: true},
	} {
		x := tableOf(t, []version{v}, 1)
		hasEntries(t, x, []version{v}, "", "")
		hasBounds(t, x, []version{v})
	}
	for _, v := range []version{
		{key: "", seq: 1},
		{key: long + "k", seq: 1},
		{key: "a", seq: 0},
		{key: "a", seq: -1},
		{key: "a", seq: math.MinInt},
		{key: "a", seq: 1<<40 + 1},
		{key: "a", seq: math.MaxInt},
		{key: "a", seq: 1, value: value + "v"},
		{key: "a", seq: 1, dead: true, value: "v"},
	} {
		for _, l := range [][]version{{v}, append(list("\x003=x", "\x002"), v), append([]version{v}, list("z3", "z2=x")...)} {
			refused(t, api.ErrKey, "t", l, 1)
		}
	}
}

func TestOrder(t *testing.T) {
	long := strings.Repeat("k", 200)
	for _, l := range [][]version{
		nil,
		list("b1", "a2"),
		list("a1", "b1", "a2"),
		list("a1", "a2"),
		list("a3", "a2", "a2"),
		list("a1", "a1"),
		list("a1=x", "a1!"),
		{{key: "ab", seq: 1}, {key: "a", seq: 1}},
		{{key: "a\x00", seq: 1}, {key: "a", seq: 2}},
		{{key: "\x80", seq: 1}, {key: "\x7f", seq: 1}},
		{{key: long, seq: 1}, {key: long, seq: 1}},
	} {
		for _, block := range []int{1, 2, 1024} {
			refused(t, api.ErrKey, "t", l, block)
		}
	}
}

func TestBlockRange(t *testing.T) {
	for _, block := range []int{math.MinInt, -1, 0, 1025, math.MaxInt} {
		refused(t, api.ErrRange, "t", list("a1"), block)
	}
	for _, block := range []int{1, 2, 1023, 1024} {
		hasEntries(t, tableOf(t, list("a1"), block), list("a1"), "", "")
	}
}

func TestNames(t *testing.T) {
	for _, name := range []string{"", "A", "a/b", "a b", "é", strings.Repeat("a", 33)} {
		refused(t, api.ErrFileName, name, list("a1"), 1)
	}
	for _, name := range []string{"a", "000001.tab", "-.", strings.Repeat("z", 32)} {
		d := vdisk.New(never)
		is(t, "Write", table.Write(d, name, asEntries(list("a1")), 1), api.OK)
		hasEntries(t, open(t, d, name), list("a1"), "", "")
	}
}

// refused tells that Write answers the error, and that the disk stays as it is.
func refused(t *testing.T, want api.Errno, name string, l []version, block int) {
	t.Helper()
	d := vdisk.New(never)
	d.Append("there", []byte("is a file"))
	is(t, fmt.Sprintf("Write(%q, %.300v, %d)", name, l, block), table.Write(d, name, asEntries(l), block), want)
	if files := d.Dump(); len(files) != 1 || string(files[0].Data) != "is a file" || files[0].Synced != 0 {
		t.Fatalf("the disk became %v", files)
	}
}

// Of several errors the one that is named first is answered: of each pair of causes, and of all.
func TestErrorsInOrder(t *testing.T) {
	causes := []api.Errno{api.ErrNil, api.ErrRange, api.ErrKey, api.ErrFileName, api.ErrTwice, api.ErrCrashed, api.ErrFull}
	for pick := range 1 << len(causes) {
		d := vdisk.New(never)
		name, l, block := "t", list("a2=x", "b1"), 1
		d.Append("other", []byte("bytes"))
		plan := never
		want := api.OK
		for i, errno := range causes {
			if pick>>i&1 == 0 {
				continue
			}
			if want == api.OK {
				want = errno
			}
			switch errno {
			case api.ErrRange:
				block = 0
			case api.ErrKey:
				l = list("b1", "a2=x")
			case api.ErrFileName:
				name = "T"
			case api.ErrTwice:
				d.Append("t", []byte("bytes"))
			case api.ErrCrashed:
				plan.Ops = 0
			case api.ErrFull:
				plan.Room = 10
			}
		}
		is(t, "Revive", d.Revive(api.Plan{Ops: plan.Ops, Room: plan.Room}), api.OK)
		if plan.Ops == 0 {
			d.Append("other", nil)
		}
		if pick&1 == 1 {
			d = nil
		}
		files := d.Dump()
		is(t, fmt.Sprintf("Write with causes %b", pick), table.Write(d, name, asEntries(l), block), want)
		if want != api.OK && !slices.EqualFunc(d.Dump(), files, sameFile) {
			t.Fatalf("a refused Write with causes %b changed the disk", pick)
		}
	}
}

func sameFile(x, y api.File) bool {
	return x.Name == y.Name && string(x.Data) == string(y.Data) && x.Synced == y.Synced
}

// Twice: the file is there, whatever it holds.
func TestTwice(t *testing.T) {
	d := vdisk.New(never)
	d.Append("empty", nil)
	d.Append("other", []byte("other"))
	is(t, "Write", table.Write(d, "t", asEntries(list("a1")), 1), api.OK)
	files := d.Dump()
	for _, name := range []string{"empty", "other", "t"} {
		is(t, "Write", table.Write(d, name, asEntries(list("b1")), 1), api.ErrTwice)
	}
	if !slices.EqualFunc(d.Dump(), files, sameFile) {
		t.Error("a refused Write changed the disk")
	}
	is(t, "Delete", d.Delete("t"), api.OK)
	is(t, "Write", table.Write(d, "t", asEntries(list("b1")), 1), api.OK)
	hasEntries(t, open(t, d, "t"), list("b1"), "", "")
}

func TestOpenErrors(t *testing.T) {
	written := func(p api.Plan) *vdisk.Disk {
		d := vdisk.New(p)
		table.Write(d, "t", asEntries(list("a2=x", "b1")), 1)
		d.Append("empty", nil)
		d.Append("other", []byte("other"))
		return d
	}
	crashed := written(api.Plan{Ops: 4, Room: -1})
	crashed.Append("a", nil)
	for _, c := range []struct {
		d    *vdisk.Disk
		name string
		want api.Errno
	}{
		{nil, "t", api.ErrNil},
		{nil, "T", api.ErrNil},
		{written(never), "t", api.OK},
		{written(never), "T", api.ErrFileName},
		{written(never), "", api.ErrFileName},
		{written(never), "u", api.ErrNoFile},
		{written(never), "empty", api.ErrCorrupt},
		{written(never), "other", api.ErrCorrupt},
		{crashed, "t", api.ErrCrashed},
		{crashed, "T", api.ErrCrashed},
		{crashed, "other", api.ErrCrashed},
	} {
		x, errno := table.Open(c.d, c.name)
		is(t, fmt.Sprintf("Open(%q)", c.name), errno, c.want)
		if (x == nil) != (errno != api.OK) {
			t.Errorf("Open(%q): a table beside %d", c.name, errno)
		}
	}
}

// Opening is no change of the disk.
func TestOpenChangesNothing(t *testing.T) {
	d := vdisk.New(api.Plan{Ops: 2, Room: -1})
	l := list("a2=x", "b1")
	is(t, "Write", table.Write(d, "t", asEntries(l), 1), api.OK)
	files := d.Dump()
	for range 3 {
		hasEntries(t, open(t, d, "t"), l, "", "")
	}
	if !slices.EqualFunc(d.Dump(), files, sameFile) {
		t.Error("the disk changed")
	}
}

func TestNilTable(t *testing.T) {
	var x *table.Table
	if e, ok, errno := x.Get([]byte("a"), 1); asVersion(e) != (version{}) || ok || errno != api.ErrNil {
		t.Errorf("Get: %v, %v, %d", e, ok, errno)
	}
	if l, errno := versions(x, "a", "b"); l != nil || errno != api.ErrNil {
		t.Errorf("Entries: %v, %d", l, errno)
	}
	for range x.Entries(nil, nil) {
		break
	}
	lo, hi := x.Bounds()
	if x.Count() != 0 || len(lo) > 0 || len(hi) > 0 {
		t.Errorf("Count %d, Bounds %q, %q", x.Count(), lo, hi)
	}
}
