package manifest_test

import (
	"slices"
	"testing"

	"usance/api"
	"usance/manifest"
	"usance/vdisk"
)

// swept tells what Sweep deletes.
func swept(t *testing.T, m *manifest.Manifest, want ...string) {
	t.Helper()
	names, errno := m.Sweep()
	is(t, "Sweep", errno, api.OK)
	if !slices.Equal(names, want) {
		t.Fatalf("Sweep: %q, not %q", names, want)
	}
}

// Files of tables that the version has stay, and so does whatever isn't named as a table's.
func TestSweep(t *testing.T) {
	others := []string{
		"t000000.tbl", "t00001.tbl", "t0000001.tbl", "t1000000.tbl", "t-00001.tbl", "t00001-.tbl", "t00000a.tbl", "t000001", "000001.tbl", "000001",
		"t000001.tbl.", "t000001.tblx", "tt000001.tbl", "t000001.tbl.tbl", "t000001.tmp", "x000001.tbl", "t.tbl", "t", ".tbl", "t 1.tbl", "t0x0001.tbl", "t00.001.tbl", "t1.tbl", "t999999999999999999999999999.tbl",
	}
	d := vdisk.New(never)
	m := open(t, d)
	swept(t, m)
	want := applies(t, m, adds(2, 10, 999999))
	var left []string
	for _, name := range others {
		if d.Append(name, []byte(name)) == api.OK {
			left = append(left, name)
		}
	}
	for _, id := range []int{1, 2, 3, 9, 10, 11, 99, 100000, 999998, 999999} {
		is(t, "Append", d.Append(manifest.Name(id), nil), api.OK)
	}
	swept(t, m, "t000001.tbl", "t000003.tbl", "t000009.tbl", "t000011.tbl", "t000099.tbl", "t100000.tbl", "t999998.tbl")
	swept(t, m)
	left = append(left, "t000002.tbl", "t000010.tbl", "t999999.tbl")
	slices.Sort(left)
	names, _ := d.List()
	if names = slices.DeleteFunc(names, isOwn); !slices.Equal(names, left) {
		t.Errorf("left: %q, not %q", names, left)
	}
	for _, f := range d.Dump() {
		if slices.Contains(others, f.Name) && string(f.Data) != f.Name {
			t.Errorf("%s became %q", f.Name, f.Data)
		}
	}
	has(t, m, want)
	has(t, open(t, d), want)
	is(t, "Apply", m.Apply(api.Edit{Drop: []int{10, 2}, Add: row(1000000-2, 1)}), api.OK)
	swept(t, m, "t000002.tbl", "t000010.tbl")
	is(t, "Apply", m.Apply(api.Edit{Drop: []int{999999}}), api.OK)
	swept(t, open(t, d), "t999999.tbl")
}

// The tables need no files: nobody asks for those that aren't there.
func TestSweepOfNothing(t *testing.T) {
	d := vdisk.New(never)
	m := open(t, d)
	applies(t, m, adds(1, 2))
	files := onDisk(d)
	swept(t, m)
	if onDisk(d) != files {
		t.Errorf("the disk became %s", onDisk(d))
	}
	is(t, "Revive", d.Revive(api.Plan{Ops: 0, Room: 0}), api.OK)
	swept(t, m)
}
