package vdisk_test

import (
	"bytes"
	"slices"
	"strings"
	"testing"

	"usance/api"
	"usance/vdisk"
)

// spoil writes over the whole list, its spare room too.
func spoil[T any](list []T, with T) {
	list = list[:cap(list)]
	for i := range list {
		list[i] = with
	}
}

// What is handed in stays as it is, spare room included, and isn't kept (R4).
func TestAppendedIsNotKept(t *testing.T) {
	for n := range 10 {
		d := vdisk.New(never)
		whole := []byte("0123456789")
		is(t, "Append", d.Append("a", whole[:n]), api.OK)
		is(t, "Append", d.Append("a", whole[:1]), api.OK)
		is(t, "Append", d.Append("b", whole[:n]), api.OK)
		if string(whole) != "0123456789" {
			t.Fatalf("what was handed in became %q", whole)
		}
		spoil(whole, 'x')
		holds(t, d, file("a", "0123456789"[:n]+"0", 0), file("b", "0123456789"[:n], 0))
	}
}

func TestFilesAreNotKept(t *testing.T) {
	whole := []byte("0123456789")
	files := []api.File{{Name: "b", Data: whole[:2], Synced: 1}, {Name: "a", Data: whole[:4]}, file("c", "", 0)}
	d := of(t, never, files[:2]...)
	d.Append("a", []byte("x"))
	d.Append("b", []byte("y"))
	if string(whole) != "0123456789" || told(files) != `b="01"/1 a="0123"/0 c=""/0 ` {
		t.Fatalf("what was handed in became %q, %s", whole, told(files))
	}
	spoil(whole, 'x')
	spoil(files, api.File{})
	holds(t, d, file("a", "0123x", 0), file("b", "01y", 1))
}

func TestPlanIsNotKept(t *testing.T) {
	begin := []func(p api.Plan) *vdisk.Disk{
		vdisk.New,
		func(p api.Plan) *vdisk.Disk { return of(t, p) },
		func(p api.Plan) *vdisk.Disk {
			d := vdisk.New(never)
			d.Revive(p)
			return d
		},
	}
	for _, disk := range begin {
		keep := []int{2, 1, 7}
		d := disk(api.Plan{Ops: -1, Room: -1, Keep: keep[:2]})
		d.Append("a", []byte("123"))
		d.Append("b", []byte("456"))
		spoil(keep, 0)
		d.Revive(never)
		holds(t, d, file("a", "12", 2), file("b", "4", 1))
		if !slices.Equal(keep, []int{0, 0, 0}) {
			t.Errorf("what was handed in became %v", keep)
		}
	}
	keep := []int{2, 1, 7}
	d := vdisk.New(api.Plan{Ops: -1, Room: -1, Keep: keep[:2]})
	for _, name := range []string{"a", "b", "c"} {
		d.Append(name, []byte("123"))
	}
	d.Revive(never)
	holds(t, d, file("a", "12", 2), file("b", "1", 1), file("c", "", 0))
	if !slices.Equal(keep, []int{2, 1, 7}) {
		t.Errorf("what was handed in became %v", keep)
	}
}

// What is answered is nobody else's: neither the disk's nor an earlier answer's, nor does one list of it share with another one (R4).
func TestReadIsNewMemory(t *testing.T) {
	d := of(t, never, file("a", "01234", 2))
	d.Append("a", []byte("567"))
	first, _ := d.Read("a")
	second, _ := d.Read("a")
	spoil(first, 'x')
	holds(t, d, file("a", "01234567", 2))
	if string(second) != "01234567" {
		t.Errorf("an answer became %q", second)
	}
	// Neither do later changes reach an answer, nor an answer's spare room the disk.
	third, _ := d.Read("a")
	d.Append("a", []byte("8"))
	spoil(third[len(third):], 'x')
	holds(t, d, file("a", "012345678", 2))
	d.Delete("a")
	d.Append("a", []byte("yyyyyyyyy"))
	if string(second) != "01234567" || string(third) != "01234567" {
		t.Errorf("answers became %q, %q", second, third)
	}
}

// Bytes that are written where some were lost in a crash are not those that were answered ahead of it.
func TestAnswersOutlastACrash(t *testing.T) {
	d := vdisk.New(api.Plan{Ops: -1, Room: -1, Keep: []int{1}})
	d.Append("a", []byte("0123"))
	b, _ := d.Read("a")
	files := d.Dump()
	d.Revive(never)
	d.Append("a", []byte("xyz"))
	if string(b) != "0123" || told(files) != told([]api.File{file("a", "0123", 0)}) {
		t.Errorf("answers became %q, %s", b, told(files))
	}
	holds(t, d, file("a", "0xyz", 1))
}

func TestListIsNewMemory(t *testing.T) {
	d := of(t, never, file("a", "", 0), file("b", "", 0), file("c", "", 0))
	first, _ := d.List()
	second, _ := d.List()
	spoil(first, "z")
	third, _ := d.List()
	d.Rename("a", "d")
	want := []string{"a", "b", "c"}
	if !slices.Equal(second, want) || !slices.Equal(third, want) {
		t.Errorf("answers became %v, %v", second, third)
	}
}

func TestDumpIsNewMemory(t *testing.T) {
	files := []api.File{file("a", "012", 1), file("b", "", 0), file("c", "345", 3), file("d", "6", 0)}
	d := of(t, never, files...)
	d.Append("d", []byte("7"))
	files[3] = file("d", "67", 0)
	first := d.Dump()
	second := d.Dump()
	for i := range first {
		spoil(first[i].Data, 'x')
		if got := told(first[i+1:]); got != told(files[i+1:]) {
			t.Errorf("with file %d those behind it became %s", i, got)
		}
	}
	spoil(first, api.File{})
	holds(t, d, files...)
	d.Append("a", []byte("8"))
	if got := told(second); got != told(files) {
		t.Errorf("an answer became %s", got)
	}
}

// A disk is told by its own calls alone (R5).
func TestDisksAreApart(t *testing.T) {
	d := of(t, api.Plan{Ops: 2, Room: 9, Keep: []int{1}}, file("a", "012", 1))
	e := of(t, api.Plan{Ops: 2, Room: 9, Keep: []int{1}}, d.Dump()...)
	d.Append("a", []byte("3"))
	d.Delete("a")
	d.Delete("a")
	holds(t, d)
	holds(t, e, file("a", "012", 1))
	is(t, "Append", e.Append("b", []byte("x")), api.OK)
	is(t, "Sync", e.Sync("b"), api.OK)
	is(t, "Sync", e.Sync("b"), api.ErrCrashed)
	e.Revive(never)
	holds(t, e, file("a", "01", 2), file("b", "x", 1))
	holds(t, d)
}

// Many files and long ones: names go as bytes, and nothing takes as long as all that is there, again and again.
func TestMany(t *testing.T) {
	d := vdisk.New(api.Plan{Ops: -1, Room: 1 << 30})
	piece := bytes.Repeat([]byte("x"), 512)
	const many = 30000
	var want []string
	for i := range many {
		name := strings.Repeat("z", i%7) + "." + string([]byte{'a' + byte(i%26), 'a' + byte(i/26%26), 'a' + byte(i/676%26), 'a' + byte(i/17576)})
		want = append(want, name)
		is(t, "Append", d.Append(name, nil), api.OK)
		is(t, "Append to a long one", d.Append("long", piece), api.OK)
	}
	want = append(want, "long")
	slices.Sort(want)
	if got, errno := d.List(); !slices.Equal(got, want) || errno != api.OK {
		t.Errorf("List of %d names: %d, %d", len(want), len(got), errno)
	}
	if b, errno := d.Read("long"); !bytes.Equal(b, bytes.Repeat(piece, many)) || errno != api.OK {
		t.Errorf("Read of a long one: %d bytes, %d", len(b), errno)
	}
}
