package manifest_test

import (
	"slices"
	"testing"

	"usance/api"
	"usance/manifest"
	"usance/vdisk"
)

// storyVersions are the story's versions: ahead of the first edit, and behind each.
func storyVersions(t *testing.T) []string {
	t.Helper()
	m := open(t, vdisk.New(never))
	versions := []string{fresh}
	for _, e := range story() {
		versions = append(versions, applies(t, m, e))
	}
	return versions
}

// goOn does the story's edits from one on, up to the first that is refused; it answers how many stand.
func goOn(t *testing.T, m *manifest.Manifest, from int) (int, api.Errno) {
	t.Helper()
	for i, e := range story()[from:] {
		before := told(m.Version())
		if errno := m.Apply(e); errno != api.OK {
			has(t, m, before)
			return from + i, errno
		}
	}
	return len(story()), api.OK
}

// stands opens the manifest and tells that it has one of the versions from least to most, opened once more the same one; it answers which.
func stands(t *testing.T, d *vdisk.Disk, versions []string, least, most int) int {
	t.Helper()
	got := told(open(t, d).Version())
	n := slices.Index(versions, got)
	if n < least || n > most {
		t.Fatalf("opened as %s, which is %d, not from %d to %d", got, n, least, most)
	}
	tidy(t, d, n)
	has(t, open(t, d), got)
	tidy(t, d, n)
	return n
}

// tidy tells that no files stand but those that the version needs: none ahead of the first edit, then two.
func tidy(t *testing.T, d *vdisk.Disk, n int) {
	t.Helper()
	names, errno := d.List()
	is(t, "List", errno, api.OK)
	if names = slices.DeleteFunc(names, func(name string) bool { return !isOwn(name) }); len(names) != 2*min(n, 1) {
		t.Fatalf("behind %d edits there are %q", n, names)
	}
}

// keeps are Keeps of few bytes and of many, of one file or of several.
func keeps() [][]int {
	var list [][]int
	for n := range 30 {
		list = append(list, []int{n}, []int{7 * n, n}, []int{n, 31 * n})
	}
	return append(list, nil, []int{1 << 30, 1 << 30, 1 << 30})
}

// Behind a crash at any change, with any of the bytes that weren't synced, the version ahead of the edit that was going on stands, or the one behind it, and the story goes on from there (P13.4).
func TestCrashes(t *testing.T) {
	versions := storyVersions(t)
	seen := map[int]bool{}
	for ops := 0; ; ops++ {
		answered := 0
		for _, keep := range keeps() {
			d := vdisk.New(api.Plan{Ops: ops, Room: -1, Keep: keep})
			m := open(t, d)
			var errno api.Errno
			if answered, errno = goOn(t, m, 0); answered < len(story()) {
				is(t, "Apply", errno, api.ErrCrashed)
			}
			is(t, "Revive", d.Revive(never), api.OK)
			n := stands(t, d, versions, answered, min(answered+1, len(story())))
			seen[n] = true
			if end, _ := goOn(t, open(t, d), n); end != len(story()) {
				t.Fatalf("behind a crash %d edits", end)
			}
			stands(t, d, versions, len(story()), len(story()))
		}
		if answered == len(story()) {
			break
		}
	}
	if len(seen) != len(versions) {
		t.Errorf("seen: %v", seen)
	}
}

// A crash while the manifest is opened, at any change, behind a crash at any change of an edit, leaves what stood.
func TestCrashesOfOpening(t *testing.T) {
	versions := storyVersions(t)
	crashed := 0
	for ops := range 40 {
		for _, keep := range [][]int{nil, {9}, {1 << 20}, {1 << 20, 1 << 20}} {
			d := vdisk.New(api.Plan{Ops: ops, Room: -1, Keep: keep})
			answered, _ := goOn(t, open(t, d), 0)
			is(t, "Revive", d.Revive(never), api.OK)
			files := d.Dump()
			n := stands(t, d, versions, answered, min(answered+1, len(story())))
			for again := range 8 {
				d, errno := vdisk.Of(files, api.Plan{Ops: again, Room: -1, Keep: keep})
				is(t, "Of", errno, api.OK)
				if m, errno := manifest.Open(d); errno != api.OK {
					crashed++
					if is(t, "Open", errno, api.ErrCrashed); m != nil {
						t.Fatal("Open: a manifest beside an error")
					}
				}
				is(t, "Revive", d.Revive(never), api.OK)
				stands(t, d, versions, n, n)
			}
		}
	}
	if crashed < 100 {
		t.Errorf("crashed %d times", crashed)
	}
}

// A crash while Sweep goes on leaves the version, and of the files the first ones are gone.
func TestCrashesOfSweep(t *testing.T) {
	for ops := range 6 {
		d := vdisk.New(never)
		m := open(t, d)
		want := applies(t, m, adds(2, 5))
		var names []string
		for id := 1; id < 8; id++ {
			names = append(names, manifest.Name(id))
			d.Append(manifest.Name(id), []byte("x"))
			d.Sync(manifest.Name(id))
		}
		is(t, "Revive", d.Revive(api.Plan{Ops: ops, Room: -1}), api.OK)
		swept, errno := m.Sweep()
		if ops < 5 {
			if is(t, "Sweep", errno, api.ErrCrashed); len(swept) > 0 {
				t.Fatalf("Sweep: %q beside an error", swept)
			}
		} else {
			is(t, "Sweep", errno, api.OK)
		}
		is(t, "Revive", d.Revive(never), api.OK)
		gone := []string{names[0], names[2], names[3], names[5], names[6]}[:ops]
		left := slices.DeleteFunc(names, func(name string) bool { return slices.Contains(gone, name) })
		listed, _ := d.List()
		listed = slices.DeleteFunc(listed, isOwn)
		if !slices.Equal(listed, left) {
			t.Fatalf("behind %d changes %q, not %q", ops, listed, left)
		}
		has(t, m, want)
		has(t, open(t, d), want)
	}
}

// Where there is no room nothing changes, neither the version nor a file; where there is, the edit is done as if it had never been refused.
func TestRoom(t *testing.T) {
	versions := storyVersions(t)
	full := 0
	for room := range 1500 {
		d := vdisk.New(api.Plan{Ops: -1, Room: room})
		m := open(t, d)
		n, errno := goOn(t, m, 0)
		if n < len(story()) {
			is(t, "Apply", errno, api.ErrFull)
			full++
		}
		files := onDisk(d)
		for range 2 {
			if again, errno := goOn(t, m, n); again != n || errno != api.OK && errno != api.ErrFull {
				t.Fatalf("room %d: %d edits, and then %d", room, n, again)
			}
		}
		if onDisk(d) != files {
			t.Fatalf("room %d: the disk became %s, not %s", room, onDisk(d), files)
		}
		stands(t, d, versions, n, n)
		is(t, "Revive", d.Revive(never), api.OK)
		stands(t, d, versions, n, n)
		if end, _ := goOn(t, m, n); end != len(story()) {
			t.Fatalf("room %d: %d edits", room, end)
		}
		stands(t, d, versions, len(story()), len(story()))
	}
	if full < 100 || full > 1400 {
		t.Errorf("full %d times", full)
	}
}

// No room and a crash: what is answered is true behind it.
func TestRoomAndCrash(t *testing.T) {
	versions := storyVersions(t)
	seen := map[api.Errno]int{}
	for room := 0; room < 1000; room += 3 {
		for ops := range 24 {
			d := vdisk.New(api.Plan{Ops: ops, Room: room, Keep: []int{1 << 20}})
			m := open(t, d)
			n, errno := goOn(t, m, 0)
			seen[errno]++
			if errno == api.ErrFull {
				// The disk goes on, and what stands is what stood.
				d, errno := vdisk.Of(d.Dump(), never)
				is(t, "Of", errno, api.OK)
				stands(t, d, versions, n, n)
				_, errno = m.Sweep()
				is(t, "Sweep behind ErrFull", errno, api.OK)
				continue
			}
			is(t, "Revive", d.Revive(never), api.OK)
			stands(t, d, versions, n, min(n+1, len(story())))
		}
	}
	if seen[api.ErrFull] < 50 || seen[api.ErrCrashed] < 50 {
		t.Errorf("answered: %v", seen)
	}
}

// A manifest that is used on behind a crash, without being opened anew, goes on from the version that it has.
func TestUsedBehindCrash(t *testing.T) {
	for ops := range 30 {
		for _, keep := range [][]int{nil, {9}, {1 << 20}} {
			d := vdisk.New(api.Plan{Ops: ops, Room: -1, Keep: keep})
			m := open(t, d)
			n, _ := goOn(t, m, 0)
			for again := range 9 {
				is(t, "Revive", d.Revive(api.Plan{Ops: again, Room: -1, Keep: keep}), api.OK)
				n, _ = goOn(t, m, n)
			}
			is(t, "Revive", d.Revive(never), api.OK)
			if n < len(story()) {
				applies(t, m, story()[n])
				tidy(t, d, n+1)
				if end, _ := goOn(t, m, n+1); end != len(story()) {
					t.Fatalf("%d edits", end)
				}
			}
			has(t, open(t, d), told(m.Version()))
		}
	}
}

// What several crashes left goes at once.
func TestManyLeft(t *testing.T) {
	d := vdisk.New(never)
	m := open(t, d)
	want := applies(t, m, adds(1))
	for range 5 {
		is(t, "Revive", d.Revive(api.Plan{Ops: 1, Room: -1, Keep: []int{9}}), api.OK)
		is(t, "Apply", m.Apply(adds(2)), api.ErrCrashed)
	}
	is(t, "Revive", d.Revive(never), api.OK)
	files := d.Dump()
	if len(files) != 7 {
		t.Fatalf("%d files", len(files))
	}
	has(t, open(t, d), want)
	tidy(t, d, 1)
	for ops := range 7 {
		d, errno := vdisk.Of(files, api.Plan{Ops: ops, Room: -1})
		is(t, "Of", errno, api.OK)
		_, errno = manifest.Open(d)
		is(t, "Open", errno, api.ErrCrashed)
		is(t, "Revive", d.Revive(never), api.OK)
		has(t, open(t, d), want)
		tidy(t, d, 1)
	}
	d, errno := vdisk.Of(files, never)
	is(t, "Of", errno, api.OK)
	m = open(t, d)
	want = applies(t, m, adds(2))
	tidy(t, d, 1)
	has(t, open(t, d), want)
}

// Of two manifests of one disk the one that changed it last is what stands.
func TestTwoOfOneDisk(t *testing.T) {
	d := vdisk.New(never)
	first, second := open(t, d), open(t, d)
	for i := range 5 {
		want := applies(t, first, adds(10*i+1))
		has(t, open(t, d), want)
		if i%2 == 0 {
			want = applies(t, first, adds(10*i+2))
		}
		want = applies(t, second, adds(10*i+3, 10*i+4))
		has(t, open(t, d), want)
	}
	if got := ids(second.Version().Tables); !slices.Equal(got, []int{3, 4, 13, 14, 23, 24, 33, 34, 43, 44}) {
		t.Errorf("the second one has %d", got)
	}
}
