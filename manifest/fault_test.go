package manifest_test

import (
	"bytes"
	"math"
	"math/rand"
	"slices"
	"strings"
	"testing"

	"usance/api"
	"usance/frame"
	"usance/manifest"
	"usance/varint"
	"usance/vdisk"
)

// opensAs opens the manifest of the files and answers its version and true; false where that is refused, which changes nothing.
func opensAs(t *testing.T, files []api.File) (string, bool) {
	t.Helper()
	d, errno := vdisk.Of(files, never)
	is(t, "Of", errno, api.OK)
	before := onDisk(d)
	m, errno := manifest.Open(d)
	if errno == api.OK {
		return told(m.Version()), true
	}
	if is(t, "Open", errno, api.ErrCorrupt); m != nil {
		t.Fatal("Open: a manifest beside an error")
	}
	if onDisk(d) != before {
		t.Fatalf("a refused Open left %s", onDisk(d))
	}
	return "", false
}

// corrupt tells that the files are refused.
func corrupt(t *testing.T, what string, files []api.File) {
	t.Helper()
	if got, ok := opensAs(t, files); ok {
		t.Fatalf("%s: opened as %s", what, got)
	}
}

// changed are the files, of which one has other bytes.
func changed(files []api.File, i int, b []byte) []api.File {
	files = slices.Clone(files)
	files[i].Data, files[i].Synced = b, len(b)
	return files
}

// storyFiles are the files behind each edit of the story.
func storyFiles(t *testing.T) [][]api.File {
	t.Helper()
	d := vdisk.New(never)
	m := open(t, d)
	var all [][]api.File
	for _, e := range story() {
		applies(t, m, e)
		all = append(all, d.Dump())
	}
	return all
}

// Whatever byte is turned, wherever a file is cut, and with whatever behind it: as all of it was synced ahead of being named, that can't be.
func TestTurnedAndCut(t *testing.T) {
	for _, files := range storyFiles(t) {
		for i, f := range files {
			for k := range f.Data {
				for _, turn := range []byte{1, 2, 4, 8, 16, 32, 64, 128, 3, 0x7f, 0xa5, 0xff} {
					b := bytes.Clone(f.Data)
					b[k] ^= turn
					corrupt(t, f.Name+" turned", changed(files, i, b))
				}
				corrupt(t, f.Name+" cut", changed(files, i, f.Data[:k]))
			}
			for _, more := range [][]byte{{0}, []byte("more"), f.Data} {
				corrupt(t, f.Name+" with more", changed(files, i, append(bytes.Clone(f.Data), more...)))
			}
			corrupt(t, f.Name+" as another one", changed(files, i, files[1-i].Data))
		}
	}
}

// A file that another one names isn't there.
func TestMissing(t *testing.T) {
	for _, files := range storyFiles(t) {
		for _, f := range files {
			if got, ok := opensAs(t, []api.File{f}); ok && got != fresh {
				t.Errorf("of %s alone: %s", f.Name, got)
			}
		}
		corrupt(t, "current alone", files[:1])
	}
}

// frames are the frames of the payloads.
func frames(payloads ...string) []byte {
	var b []byte
	for _, payload := range payloads {
		f, _ := frame.Put([]byte(payload))
		b = append(b, f...)
	}
	return b
}

// numbers are the forms of numbers, one behind the other.
func numbers(list ...uint64) string {
	var b []byte
	for _, n := range list {
		b = varint.AppendUint(b, n)
	}
	return string(b)
}

// toldRow is what the file tells of a table.
func toldRow(id, level, count uint64, lo, hi string) string {
	return numbers(id, level, count, uint64(len(lo))) + lo + numbers(uint64(len(hi))) + hi
}

// named are the files of a manifest, by their bytes.
func named(current, version []byte) []api.File {
	return []api.File{{Name: "current", Data: current}, {Name: "manifest.1", Data: version}}
}

// What stands under right sums is a version that edits can have made, or it can't be.
func TestFormOfVersions(t *testing.T) {
	current := frames("manifest.1")
	long := strings.Repeat("k", 200)
	head := numbers(5, 9, 8, 2)
	one, two := toldRow(3, 0, 1, "a", "b"), toldRow(7, 3, 300, "c", "c")
	for want, payloads := range map[string][]string{
		`log 5 seq 9 next 8, 3/0/1 "a" "b", 7/3/300 "c" "c"`: {head, one, two},
		fresh:                 {numbers(0, 0, 1, 0)},
		"log 5 seq 9 next 20": {numbers(5, 9, 20, 0)},
		"log 9223372036854775807 seq 9223372036854775807 next 1000000":   {numbers(math.MaxInt, math.MaxInt, 1000000, 0)},
		`log 0 seq 0 next 2, 1/0/1 "` + long + `" "` + long + `"`:        {numbers(0, 0, 2, 1), toldRow(1, 0, 1, long, long)},
		`log 0 seq 0 next 1000000, 999999/0/9223372036854775807 "a" "a"`: {numbers(0, 0, 1000000, 1), toldRow(999999, 0, math.MaxInt, "a", "a")},
	} {
		if got, ok := opensAs(t, named(current, frames(payloads...))); !ok || got != want {
			t.Errorf("opened as %q, not %q", got, want)
		}
	}
	for what, payloads := range map[string][]string{
		"nothing":                      {},
		"an empty frame":               {""},
		"a number less":                {numbers(0, 0, 1)},
		"a number more":                {numbers(0, 0, 1, 0, 0)},
		"a byte more":                  {numbers(0, 0, 1, 0) + "\x80"},
		"a long form":                  {numbers(0, 0, 1) + "\x80\x00"},
		"a table less":                 {head, one},
		"a table more":                 {numbers(5, 9, 8, 1), one, two},
		"tables where none are":        {numbers(5, 9, 8, 0), one},
		"a great count":                {numbers(5, 9, 8, math.MaxUint64), one},
		"a great log":                  {numbers(1<<63, 9, 8, 0)},
		"a great seq":                  {numbers(0, math.MaxUint64, 8, 0)},
		"next 0":                       {numbers(0, 0, 0, 0)},
		"a great next":                 {numbers(0, 0, 1000001, 0)},
		"the greatest next":            {numbers(0, 0, math.MaxUint64, 0)},
		"next of a table":              {numbers(5, 9, 7, 2), one, two},
		"next of a table ahead":        {numbers(5, 9, 4, 2), one, two},
		"IDs that fall":                {head, two, one},
		"an ID twice":                  {numbers(5, 9, 8, 3), one, one, two},
		"an ID twice at the end":       {numbers(5, 9, 8, 3), one, two, two},
		"ID 0":                         {head, toldRow(0, 0, 1, "a", "b"), two},
		"a great ID":                   {numbers(5, 9, 1000000, 2), one, toldRow(1000000, 0, 1, "a", "b")},
		"a great ID and next":          {numbers(5, 9, 1000001, 2), one, toldRow(1000000, 0, 1, "a", "b")},
		"the greatest ID":              {head, one, toldRow(math.MaxUint64, 0, 1, "a", "b")},
		"level 4":                      {head, toldRow(3, 4, 1, "a", "b"), two},
		"the greatest level":           {head, toldRow(3, math.MaxUint64, 1, "a", "b"), two},
		"count 0":                      {head, toldRow(3, 0, 0, "a", "b"), two},
		"the greatest count":           {head, toldRow(3, 0, 1<<63, "a", "b"), two},
		"no least key":                 {head, toldRow(3, 0, 1, "", "b"), two},
		"no greatest key":              {head, toldRow(3, 0, 1, "a", ""), two},
		"keys that fall":               {head, toldRow(3, 0, 1, "b", "a"), two},
		"a long least key":             {head, toldRow(3, 0, 1, long+"k", "z"), two},
		"a long greatest key":          {head, toldRow(3, 0, 1, "a", long+"k"), two},
		"keys cut":                     {head, one[:len(one)-1], two},
		"no keys":                      {head, numbers(3, 0, 1), two},
		"more behind the keys":         {head, one + "\x00", two},
		"a table of nothing":           {head, "", two},
		"a table of nothing, the last": {head, one, ""},
		"a great number, keys behind":  {head, "\xff\xff\xff\xff\xff\xff\xff\xff\xff\x02" + one, two},
	} {
		corrupt(t, what, named(current, frames(payloads...)))
	}
}

// What names the file is its name and nothing else.
func TestFormOfCurrent(t *testing.T) {
	version := frames(numbers(5, 9, 8, 0))
	const want = "log 5 seq 9 next 8"
	for _, name := range []string{"manifest.1", "manifest.2", "manifest.10", "manifest.9223372036854775807"} {
		if got, ok := opensAs(t, []api.File{{Name: "current", Data: frames(name)}, {Name: name, Data: version}}); !ok || got != want {
			t.Errorf("%s: %q", name, got)
		}
		if got, ok := opensAs(t, []api.File{{Name: name, Data: version}}); !ok || got != fresh {
			t.Errorf("%s, not named: %q", name, got)
		}
	}
	for _, name := range []string{"", "current", "m", "manifest", "manifest.", "manifest.0", "manifest.01", "manifest.-1", "manifest.1.", "manifest.1a", "x", "1", "manifest.9223372036854775808", "t000001.tbl", "manifest.3"} {
		files := []api.File{{Name: "current", Data: frames(name)}, {Name: "manifest.2", Data: version}}
		if d, errno := vdisk.Of([]api.File{{Name: name}}, never); errno == api.OK && d != nil && name != "current" && name != "manifest.3" {
			files = append(files, api.File{Name: name, Data: version})
		}
		corrupt(t, name, files)
	}
	for what, b := range map[string][]byte{
		"two names":    frames("manifest.1", "manifest.1"),
		"a frame more": frames("manifest.1", ""),
		"no frame":     {},
		"bare":         []byte("manifest.1"),
	} {
		corrupt(t, what, named(b, version))
	}
}

// Bytes under right sums that nobody wrote so: nothing panics, all ends, and what is opened is a version that may be, which goes on.
func TestBytesOfAnyKind(t *testing.T) {
	r := rand.New(rand.NewSource(13))
	opened := 0
	for _, files := range storyFiles(t) {
		payloads, _, errno := frame.All(files[1].Data)
		is(t, "All", errno, api.OK)
		for range 4000 {
			some := slices.Clone(payloads)
			i := r.Intn(len(some))
			some[i] = bytes.Clone(some[i])
			switch k := r.Intn(len(some[i])); r.Intn(5) {
			case 0:
				some[i][k] = byte(r.Intn(256))
			case 1:
				some[i][k] += byte(r.Intn(3) - 1)
			case 2:
				some[i] = some[i][:k]
			case 3:
				some[i] = slices.Concat(some[i], some[r.Intn(len(some))])
			case 4:
				some[i] = some[r.Intn(len(some))]
			}
			var b []byte
			for _, payload := range some {
				b = append(b, frames(string(payload))...)
			}
			if goesOn(t, changed(files, 1, b)) {
				opened++
			}
		}
	}
	if opened < 100 {
		t.Errorf("opened %d times", opened)
	}
}

// goesOn tells whether the files are opened; then the version is one that Fold makes of its own tables, and an edit of it lasts.
func goesOn(t *testing.T, files []api.File) bool {
	t.Helper()
	d, errno := vdisk.Of(files, never)
	is(t, "Of", errno, api.OK)
	m, errno := manifest.Open(d)
	if errno != api.OK {
		is(t, "Open", errno, api.ErrCorrupt)
		return false
	}
	v := m.Version()
	again, errno := manifest.Fold(api.Version{Next: v.Next}, api.Edit{Add: v.Tables, Log: v.Log, Seq: v.Seq})
	if errno != api.OK || told(again) != told(v) || v.Next > 1000000 {
		t.Fatalf("opened as %s", told(v))
	}
	is(t, "Apply", m.Apply(api.Edit{Drop: ids(v.Tables), Log: v.Log, Seq: v.Seq}), api.OK)
	has(t, open(t, d), told(api.Version{Log: v.Log, Seq: v.Seq, Next: v.Next}))
	return true
}

// Files that aren't its own count for nothing and stay, however like they look.
func TestOthersStay(t *testing.T) {
	d := vdisk.New(never)
	others := []string{"manifest", "manifest.", "manifest.0", "manifest.01", "manifest.-1", "manifest.1.tmp", "manifest.x", "manifest-1", "m", "m1", "current.1", "currents", "curren", "1"}
	for _, name := range others {
		is(t, "Append", d.Append(name, []byte(name)), api.OK)
		is(t, "Sync", d.Sync(name), api.OK)
	}
	m := open(t, d)
	has(t, m, fresh)
	for _, e := range story() {
		want := applies(t, m, e)
		has(t, open(t, d), want)
	}
	for _, name := range others {
		if b, errno := d.Read(name); errno != api.OK || string(b) != name {
			t.Errorf("%s became %q, %d", name, b, errno)
		}
	}
}
