package wal_test

import (
	"bytes"
	"fmt"
	"math"
	"slices"
	"strings"
	"testing"

	"usance/api"
	"usance/frame"
	"usance/vdisk"
	"usance/wal"
)

// never is the plan of a disk that neither crashes nor is full.
var never = api.Plan{Ops: -1, Room: -1}

// framed are the frames of the records, one behind the other.
func framed(records ...string) string {
	var b strings.Builder
	for _, record := range records {
		f, _ := frame.Put([]byte(record))
		b.Write(f)
	}
	return b.String()
}

// file is a file of which the first so many bytes are synced.
func file(name, data string, synced int) api.File {
	return api.File{Name: name, Data: []byte(data), Synced: synced}
}

// firm is a file of these records, synced; loose is one of which nothing is.
func firm(name string, records ...string) api.File {
	data := framed(records...)
	return file(name, data, len(data))
}

func loose(name string, records ...string) api.File {
	return file(name, framed(records...), 0)
}

// told are files as a text; nil and empty bytes are alike in it.
func told(files []api.File) string {
	var b strings.Builder
	for _, f := range files {
		fmt.Fprintf(&b, "%s=%q/%d ", f.Name, f.Data, f.Synced)
	}
	return b.String()
}

// texts are records as a text.
func texts(records [][]byte) string {
	return fmt.Sprintf("%d%q", len(records), records)
}

func of(t *testing.T, p api.Plan, files ...api.File) *vdisk.Disk {
	t.Helper()
	d, errno := vdisk.Of(files, p)
	if d == nil || errno != api.OK {
		t.Fatalf("Of(%s) = %v %d", told(files), d, errno)
	}
	return d
}

// holds tells that the disk has these files.
func holds(t *testing.T, d *vdisk.Disk, files ...api.File) {
	t.Helper()
	if got := told(d.Dump()); got != told(files) {
		t.Errorf("the disk has\n%s, not\n%s", got, told(files))
	}
}

// is tells that what was answered is as wanted.
func is(t *testing.T, what string, got, want api.Errno) {
	t.Helper()
	if got != want {
		t.Errorf("%s: %d, not %d", what, got, want)
	}
}

// at tells the segment to which the next record goes.
func at(t *testing.T, l *wal.Log, want int) {
	t.Helper()
	if got := l.Segment(); got != want {
		t.Errorf("Segment: %d, not %d", got, want)
	}
}

// open opens the log of w, which has these records.
func open(t *testing.T, d *vdisk.Disk, size int, want ...string) *wal.Log {
	t.Helper()
	l, records, errno := wal.Open(d, "w", size)
	if l == nil || errno != api.OK {
		t.Fatalf("Open: %v %d", l, errno)
	}
	if got := framed(asTexts(records)...); got != framed(want...) {
		t.Fatalf("Open: %s, not %q", texts(records), want)
	}
	return l
}

func asTexts(records [][]byte) []string {
	var list []string
	for _, record := range records {
		list = append(list, string(record))
	}
	return list
}

// puts appends records, all of which are taken.
func puts(t *testing.T, l *wal.Log, records ...string) {
	t.Helper()
	for _, record := range records {
		is(t, "Append", l.Append([]byte(record)), api.OK)
	}
}

// refused tells that Open answers this error, and zero values beside it.
func refused(t *testing.T, d *vdisk.Disk, prefix string, size int, want api.Errno) {
	t.Helper()
	l, records, errno := wal.Open(d, prefix, size)
	if l != nil || len(records) > 0 || errno != want {
		t.Errorf("Open(%.40q, %d): %v %s %d, not %d", prefix, size, l, texts(records), errno, want)
	}
}

// passed are the states through which a call leads a disk of the files, one more at each change, as a crash tells them apart.
func passed(t *testing.T, call func(d *vdisk.Disk) api.Errno, files ...api.File) []string {
	t.Helper()
	var states []string
	for ops := 0; ; ops++ {
		d := of(t, api.Plan{Ops: ops, Room: -1}, files...)
		errno := call(d)
		states = append(states, told(d.Dump()))
		if errno != api.ErrCrashed {
			return states
		}
	}
}

// passes tells that the call leads through these states.
func passes(t *testing.T, got []string, want ...[]api.File) {
	t.Helper()
	var states []string
	for _, files := range want {
		states = append(states, told(files))
	}
	if !slices.Equal(got, states) {
		t.Errorf("the disk went through\n%s\nnot\n%s", strings.Join(got, "\n"), strings.Join(states, "\n"))
	}
}

func opened(d *vdisk.Disk) api.Errno {
	_, _, errno := wal.Open(d, "w", 20)
	return errno
}

// The chapter's examples.
func TestExamples(t *testing.T) {
	d := vdisk.New(never)
	puts(t, open(t, d, 100), "one")
	holds(t, d, loose("w000001.log", "one"))
	d = vdisk.New(never)
	l := open(t, d, 1)
	puts(t, l, "one", "", "three")
	is(t, "Sync", l.Sync(), api.OK)
	holds(t, d, firm("w000001.log", "one"), firm("w000002.log", ""), firm("w000003.log", "three"))
	open(t, d, 1, "one", "", "three")
}

func TestOpenOfNothing(t *testing.T) {
	for _, size := range []int{1, 2, 8, 1000, 1<<20 - 1, 1 << 20} {
		d := vdisk.New(api.Plan{})
		l := open(t, d, size)
		at(t, l, 1)
		is(t, "Sync", l.Sync(), api.OK)
		is(t, "Drop", l.Drop(math.MaxInt), api.OK)
		holds(t, d)
	}
}

// What is named first is answered first, and with what is wrong the disk isn't touched.
func TestOpenRefuses(t *testing.T) {
	refused(t, nil, "W", 0, api.ErrNil)
	refused(t, nil, "w", 0, api.ErrNil)
	refused(t, nil, "w", 1, api.ErrNil)
	files := []api.File{loose("w.tmp", "a"), loose("w000001.log", "b"), file("w000002.log", "c", 0)}
	down := of(t, api.Plan{}, files...)
	is(t, "crash", down.Sync("w.tmp"), api.ErrCrashed)
	for _, d := range []*vdisk.Disk{of(t, never, files...), down} {
		for _, size := range []int{0, -1, math.MinInt, 1<<20 + 1, math.MaxInt} {
			refused(t, d, "", size, api.ErrFileName)
			refused(t, d, "w", size, api.ErrRange)
		}
		refused(t, d, "", 1, api.ErrFileName)
		holds(t, d, files...)
	}
	refused(t, down, "w", 1, api.ErrCrashed)
	holds(t, down, files...)
	// Also where nothing would be changed.
	down = of(t, api.Plan{}, file("a", "", 0))
	is(t, "crash", down.Sync("a"), api.ErrCrashed)
	refused(t, down, "w", 1, api.ErrCrashed)
}

func TestPrefixes(t *testing.T) {
	may := []string{"ab", "zz", "abcdefgh", "stuvwxyz", "abcdefg"}
	mayNot := []string{"", "abcdefghi", "zzzzzzzzz", strings.Repeat("a", 32), strings.Repeat("a", 33), strings.Repeat("a", 1<<20), "ä", "日", "w.tmp", "w000001"}
	for c := range 256 {
		b := string([]byte{byte(c)})
		list := []string{b, b + "a", "a" + b, "a" + b + "a", "abcdefg" + b, b + "abcdefg"}
		if c >= 'a' && c <= 'z' {
			may = append(may, list...)
		} else {
			mayNot = append(mayNot, list...)
		}
	}
	for _, prefix := range may {
		d := of(t, never, file(prefix+".tmp", "x", 0), loose(prefix+"000004.log", "4"))
		l, records, errno := wal.Open(d, prefix, 1)
		if l == nil || texts(records) != `1["4"]` || errno != api.OK {
			t.Fatalf("Open(%q): %v %s %d", prefix, l, texts(records), errno)
		}
		puts(t, l, "5", "6")
		holds(t, d, firm(prefix+"000004.log", "4"), firm(prefix+"000005.log", "5"), loose(prefix+"000006.log", "6"))
	}
	for _, prefix := range mayNot {
		d := of(t, never, file("w.tmp", "x", 0))
		refused(t, d, prefix, 1, api.ErrFileName)
		holds(t, d, file("w.tmp", "x", 0))
	}
}

// Files of other names are neither read, nor counted, synced, deleted or written.
func TestOtherFiles(t *testing.T) {
	names := []string{
		"w000000.log", "w00001.log", "w0000002.log", "w1000000.log", "w-00001.log", "w00000-.log", "w0.0001.log", "w00000a.log",
		"w.log", "w000009", "w000009.lo", "w000009.log.", "w000009.log.tmp", "w000009.tmp", "w000009.logg", "w000009log", "w000009.-og", "wlog", "w-",
		"v000009.log", "x000009.log", "ww000009.log", "vw000009.log", "000009.log", ".w000009.log", "0w000009.log", "wa000009.log",
		"v.tmp", "ww.tmp", ".tmp", "tmp", "wtmp", "w-tmp", "w.tm", "w.tmpp", "w.tmp.tmp", "w.tmp.log", "w..tmp", "aw.tmp",
	}
	slices.Sort(names)
	var files []api.File
	for _, name := range names {
		files = append(files, file(name, framed("no")+"broken", 3))
	}
	d := of(t, never, append(slices.Clone(files), file("w.tmp", "x", 0))...)
	l := open(t, d, 1)
	at(t, l, 1)
	holds(t, d, files...)
	puts(t, l, "a", "b")
	is(t, "Sync", l.Sync(), api.OK)
	open(t, d, 1, "a", "b")
	is(t, "Append of a broken one", d.Append("w000001.log", []byte("x")), api.OK)
	l = open(t, d, 1, "a")
	is(t, "Drop", l.Drop(math.MaxInt), api.OK)
	holds(t, d, files...)
}

// The segments go by their numbers, and what isn't there is no end.
func TestOrderOfSegments(t *testing.T) {
	d := of(t, never, loose("w100000.log", "7", "8"), firm("w000010.log", "3"), loose("w000009.log"), loose("w000002.log", "1", "2"), loose("w000100.log", "4", "", "6"), loose("w000099.log", "x"))
	l := open(t, d, 20, "1", "2", "3", "x", "4", "", "6", "7", "8")
	at(t, l, 100001)
	holds(t, d, firm("w000002.log", "1", "2"), firm("w000009.log"), firm("w000010.log", "3"), firm("w000099.log", "x"), firm("w000100.log", "4", "", "6"), firm("w100000.log", "7", "8"))
	puts(t, l, "9")
	at(t, l, 100001)
	open(t, d, 20, "1", "2", "3", "x", "4", "", "6", "7", "8", "9")
	// One with room in it isn't written to again.
	holds(t, d, firm("w000002.log", "1", "2"), firm("w000009.log"), firm("w000010.log", "3"), firm("w000099.log", "x"), firm("w000100.log", "4", "", "6"), firm("w100000.log", "7", "8"), firm("w100001.log", "9"))
}

// Opening syncs each segment, by rising numbers, also the synced ones, and makes no file.
func TestStepsOfOpen(t *testing.T) {
	one, two, ten := loose("w000001.log", "1"), loose("w000002.log", "2"), loose("w000010.log")
	fone, ftwo, ften := firm("w000001.log", "1"), firm("w000002.log", "2"), firm("w000010.log")
	passes(t, passed(t, opened), []api.File{})
	passes(t, passed(t, opened, file("w.tmp", "x", 0)), []api.File{file("w.tmp", "x", 0)}, []api.File{})
	passes(t, passed(t, opened, one, two), []api.File{one, two}, []api.File{fone, two}, []api.File{fone, ftwo})
	passes(t, passed(t, opened, one, ftwo, loose("w000003.log", "3")), []api.File{one, ftwo, loose("w000003.log", "3")}, []api.File{fone, ftwo, loose("w000003.log", "3")}, []api.File{fone, ftwo, loose("w000003.log", "3")}, []api.File{fone, ftwo, firm("w000003.log", "3")})
	passes(t, passed(t, opened, file("w.tmp", "", 0), one, two, ten),
		[]api.File{file("w.tmp", "", 0), one, two, ten}, []api.File{one, two, ten}, []api.File{fone, two, ten}, []api.File{fone, ftwo, ten}, []api.File{fone, ftwo, ften})
}

// What stands beyond a broken segment goes first, the greatest first; then the segment is mended by way of another file; then all are synced, this one once more.
func TestStepsOfMending(t *testing.T) {
	tmp := file("w.tmp", "junk", 2)
	one := loose("w000001.log", "1")
	fone := firm("w000001.log", "1")
	good := framed("2", "3")
	broken := file("w000005.log", good+"\x09", 4)
	six, seven, nine := loose("w000006.log", "6"), file("w000007.log", "junk", 0), firm("w000009.log", "9")
	made, synced := file("w.tmp", good, 0), file("w.tmp", good, len(good))
	mended := file("w000005.log", good, len(good))
	got := passed(t, opened, tmp, one, broken, six, seven, nine)
	passes(t, got,
		[]api.File{tmp, one, broken, six, seven, nine},
		[]api.File{one, broken, six, seven, nine},
		[]api.File{one, broken, six, seven},
		[]api.File{one, broken, six},
		[]api.File{one, broken},
		[]api.File{made, one, broken},
		[]api.File{synced, one, broken},
		[]api.File{one, mended},
		[]api.File{fone, mended},
		[]api.File{fone, mended})
	d := of(t, never, tmp, one, broken, six, seven, nine)
	at(t, open(t, d, 20, "1", "2", "3"), 6)
	at(t, open(t, d, 20, "1", "2", "3"), 6)
}

// Frames may break off in any way, anywhere; nothing from there on is read, be it whole or not.
func TestBrokenFrames(t *testing.T) {
	wrong := []byte(framed("wrong"))
	wrong[6] ^= 1
	turned := []byte(framed("turned"))
	turned[len(turned)-1] ^= 128
	breaks := []string{"\x00", "\x00\x00\x00\x00\x00\x00\x00", framed("")[:7], framed("abc")[:8], framed("abc")[:10], string(wrong), string(turned), "\x01\x00\x20\x00", "\x01\x00\x20\x00abcd" + strings.Repeat("x", 9), "\xff\xff\xff\xffabcd", strings.Repeat("\x00", 8)}
	for _, broken := range breaks {
		for _, ahead := range [][]string{nil, {"1"}, {"1", ""}} {
			for _, behind := range []string{"", framed("behind")} {
				if len(broken) < 8 && behind != "" {
					continue // a frame behind would make a whole head of it
				}
				good := framed(ahead...)
				want := append([]string{"0"}, ahead...)
				d := of(t, never, firm("w000003.log", "0"), file("w000004.log", good+broken+behind, 0), firm("w000005.log", "x"))
				l := open(t, d, 20, want...)
				at(t, l, 5)
				holds(t, d, firm("w000003.log", "0"), file("w000004.log", good, len(good)))
				puts(t, l, "5")
				open(t, d, 20, append(want, "5")...)
			}
		}
	}
}

// Without any whole frame a broken segment is left with no bytes, and is one all the same.
func TestMendedToNothing(t *testing.T) {
	d := of(t, api.Plan{Ops: -1, Room: 3}, file("w000007.log", "x", 1), file("w000008.log", "y", 1))
	l := open(t, d, 20)
	at(t, l, 8)
	holds(t, d, file("w000007.log", "", 0))
	l = open(t, d, 20)
	at(t, l, 8)
	passes(t, passed(t, opened, file("w000007.log", "x", 0)),
		[]api.File{file("w000007.log", "x", 0)},
		[]api.File{file("w.tmp", "", 0), file("w000007.log", "x", 0)},
		[]api.File{file("w.tmp", "", 0), file("w000007.log", "x", 0)},
		[]api.File{file("w000007.log", "", 0)},
		[]api.File{file("w000007.log", "", 0)})
}

// Where there is no room to mend, what was done ahead of that stays done, and with room the rest follows.
func TestMendingWithoutRoom(t *testing.T) {
	good := framed("12345")
	files := []api.File{file("w.tmp", "junk", 0), loose("w000001.log", "1"), file("w000002.log", good+"x", 0), loose("w000003.log", "3")}
	after := []api.File{loose("w000001.log", "1"), file("w000002.log", good+"x", 0)}
	room := len(framed("1")) + len(good) + 1 + len(good)
	for short := range room + 1 {
		d := of(t, api.Plan{Ops: -1, Room: room - short}, files...)
		if short == 0 {
			open(t, d, 20, "1", "12345")
			continue
		}
		refused(t, d, "w", 20, api.ErrFull)
		holds(t, d, after...)
		refused(t, d, "w", 20, api.ErrFull)
		holds(t, d, after...)
		d = of(t, never, d.Dump()...)
		at(t, open(t, d, 20, "1", "12345"), 3)
		holds(t, d, firm("w000001.log", "1"), firm("w000002.log", "12345"))
	}
}

func TestLastNumberTaken(t *testing.T) {
	for _, last := range []api.File{loose("w999999.log", "9"), loose("w999999.log"), file("w999999.log", framed("9")+"x", 0), file("w999999.log", "x", 0)} {
		d := of(t, never, file("w.tmp", "x", 0), loose("w000001.log", "1"), last)
		good := framed("9")
		if len(last.Data) < len(good) {
			good = ""
		}
		for range 2 {
			refused(t, d, "w", 20, api.ErrLong)
			holds(t, d, firm("w000001.log", "1"), file("w999999.log", good, len(good)))
		}
		// A crash in between is told first.
		files := []api.File{file("w.tmp", "x", 0), loose("w000001.log", "1"), last}
		ops := len(passed(t, opened, files...)) - 1
		d = of(t, api.Plan{Ops: ops - 1, Room: -1}, files...)
		refused(t, d, "w", 20, api.ErrCrashed)
		d = of(t, api.Plan{Ops: ops, Room: -1}, files...)
		refused(t, d, "w", 20, api.ErrLong)
	}
	// Deleted as it is beyond a broken one, it isn't taken.
	d := of(t, never, file("w999998.log", framed("8")+"x", 0), loose("w999999.log", "9"))
	at(t, open(t, d, 20, "8"), 999999)
	holds(t, d, firm("w999998.log", "8"))
}

func TestLastNumber(t *testing.T) {
	size := len(framed("a")) + 1
	d := of(t, never, firm("w999998.log", "8"))
	l := open(t, d, size, "8")
	at(t, l, 999999)
	puts(t, l, "a")
	at(t, l, 999999)
	puts(t, l, "b")
	at(t, l, 1000000)
	files := []api.File{firm("w999998.log", "8"), loose("w999999.log", "a", "b")}
	for range 2 {
		is(t, "Append beyond the last number", l.Append(nil), api.ErrLong)
		is(t, "Append of too much beyond the last number", l.Append(make([]byte, api.MaxFrame+1)), api.ErrLong)
		at(t, l, 1000000)
		holds(t, d, files...)
	}
	is(t, "Sync", l.Sync(), api.OK)
	is(t, "Drop", l.Drop(math.MaxInt), api.OK)
	holds(t, d, firm("w999999.log", "a", "b"))
	refused(t, d, "w", size, api.ErrLong)
	// No change is asked for: a disk that would crash at it doesn't.
	d = of(t, api.Plan{Ops: 2, Room: -1}, firm("w999998.log", "8"))
	l = open(t, d, 1, "8")
	puts(t, l, "a")
	is(t, "Append beyond the last number", l.Append(nil), api.ErrLong)
	is(t, "Sync", l.Sync(), api.ErrCrashed)
	is(t, "Append beyond the last number", l.Append(nil), api.ErrLong)
}

func TestNoLog(t *testing.T) {
	var l *wal.Log
	for _, b := range [][]byte{nil, []byte("a"), make([]byte, api.MaxFrame+1)} {
		is(t, "Append", l.Append(b), api.ErrNil)
	}
	is(t, "Sync", l.Sync(), api.ErrNil)
	for _, below := range []int{0, 1, math.MaxInt, math.MinInt} {
		is(t, "Drop", l.Drop(below), api.ErrNil)
	}
	at(t, l, 0)
}

// The bytes that count are those of the frames: one more than a size begins no sooner the next segment than the size itself, one less no later.
func TestFullSegments(t *testing.T) {
	for n := range 20 {
		record := strings.Repeat("x", n)
		length := len(framed(record))
		for size := 1; size < 3*length+2; size++ {
			d := vdisk.New(never)
			l := open(t, d, size)
			most := (size + length - 1) / length // records till they have so many bytes
			for i := range most {
				at(t, l, 1)
				puts(t, l, record)
				holds(t, d, loose("w000001.log", slices.Repeat([]string{record}, i+1)...))
			}
			at(t, l, 2)
			puts(t, l, record)
			holds(t, d, firm("w000001.log", slices.Repeat([]string{record}, most)...), loose("w000002.log", record))
		}
	}
}

func TestLongRecords(t *testing.T) {
	d := vdisk.New(never)
	l := open(t, d, 1<<20)
	long := bytes.Repeat([]byte("x"), api.MaxFrame+1)
	is(t, "Append of too much", l.Append(long), api.ErrLong)
	holds(t, d)
	is(t, "Append of the most", l.Append(long[:api.MaxFrame]), api.OK)
	at(t, l, 2)
	// What is too long begins no segment, and is told ahead of a crash.
	is(t, "Append of too much", l.Append(long), api.ErrLong)
	holds(t, d, loose("w000001.log", string(long[:api.MaxFrame])))
	puts(t, l, "2")
	at(t, open(t, d, 1<<20, string(long[:api.MaxFrame]), "2"), 3)
	d = vdisk.New(api.Plan{Room: -1})
	l = open(t, d, 1)
	is(t, "Append of too much", l.Append(long), api.ErrLong)
	is(t, "Append", l.Append(nil), api.ErrCrashed)
	is(t, "Append of too much", l.Append(long), api.ErrLong)
}

// Each call changes the disk as often as it says, and in that order.
func TestStepsOfCalls(t *testing.T) {
	a, fa := loose("w000001.log", "a"), firm("w000001.log", "a")
	b, fb := loose("w000002.log", "b"), firm("w000002.log", "b")
	calls := func(d *vdisk.Disk) api.Errno {
		l, _, _ := wal.Open(d, "w", 9)
		for _, call := range []func() api.Errno{
			l.Sync,
			func() api.Errno { return l.Append([]byte("a")) },
			func() api.Errno { return l.Append([]byte("b")) },
			l.Sync,
			l.Sync,
			func() api.Errno { return l.Append([]byte("c")) },
			l.Sync,
			func() api.Errno { return l.Drop(9) },
		} {
			if errno := call(); errno != api.OK {
				return errno
			}
		}
		return api.OK
	}
	passes(t, passed(t, calls),
		[]api.File{},
		[]api.File{a},
		[]api.File{fa}, // ahead of the next one
		[]api.File{fa, b},
		[]api.File{fa, fb},
		[]api.File{fa, fb}, // synced, and once more
		[]api.File{fa, fb}, // and ahead of the next one
		[]api.File{fa, fb, loose("w000003.log", "c")},
		[]api.File{fa, fb, firm("w000003.log", "c")},
		[]api.File{fb, firm("w000003.log", "c")},
		[]api.File{firm("w000003.log", "c")})
}

// A record that the disk refuses isn't in the log; and a segment that was begun for it stays begun.
func TestRefusedRecords(t *testing.T) {
	length := len(framed("a"))
	d := vdisk.New(api.Plan{Ops: -1, Room: 2*length + 1})
	l := open(t, d, 2*length)
	puts(t, l, "a")
	is(t, "Append beyond the room", l.Append([]byte("abc")), api.ErrFull)
	at(t, l, 1)
	holds(t, d, loose("w000001.log", "a"))
	puts(t, l, "b")
	at(t, l, 2)
	for range 2 {
		is(t, "Append beyond the room", l.Append(nil), api.ErrFull)
		at(t, l, 2)
		holds(t, d, firm("w000001.log", "a", "b"))
		is(t, "Sync", l.Sync(), api.OK)
	}
	open(t, of(t, never, d.Dump()...), 1, "a", "b")
	is(t, "Append of a file", d.Append("v", []byte("x")), api.OK)
	is(t, "Delete of a file", d.Delete("v"), api.OK)
	// It is the one that is written to: the one below it may go.
	is(t, "Drop", l.Drop(1), api.OK)
	holds(t, d, firm("w000001.log", "a", "b"))
	is(t, "Drop", l.Drop(2), api.OK)
	holds(t, d)
	puts(t, l, "c")
	holds(t, d, loose("w000002.log", "c"))
	open(t, d, 1, "c")
}

// When the segment can't be synced the next one isn't begun; when it is, but can't be written to, it is all the same.
func TestCrashAtTheNextSegment(t *testing.T) {
	for ops := 1; ops <= 3; ops++ {
		d := vdisk.New(api.Plan{Ops: ops, Room: -1})
		l := open(t, d, 1)
		puts(t, l, "a")
		want, files := api.ErrCrashed, []api.File{firm("w000001.log", "a")}
		switch ops {
		case 1:
			files[0].Synced = 0
		case 3:
			want, files = api.OK, append(files, loose("w000002.log", "b"))
		}
		is(t, "Append", l.Append([]byte("b")), want)
		holds(t, d, files...)
		at(t, l, []int{0, 2, 2, 3}[ops])
		// A segment without a record has nothing to sync, and so nothing to ask a crashed disk for.
		is(t, "Sync", l.Sync(), []api.Errno{0, api.ErrCrashed, api.OK, api.ErrCrashed}[ops])
		is(t, "Append", l.Append([]byte("b")), api.ErrCrashed)
		at(t, l, []int{0, 2, 2, 3}[ops])
		is(t, "Drop", l.Drop(0), api.ErrCrashed)
		is(t, "Drop", l.Drop(9), api.ErrCrashed)
		holds(t, d, files...)
	}
}

func TestSync(t *testing.T) {
	d := of(t, api.Plan{Ops: 3, Room: -1}, loose("w000001.log", "a"))
	l := open(t, d, 20, "a")
	is(t, "Sync without a record", l.Sync(), api.OK)
	puts(t, l, "")
	holds(t, d, firm("w000001.log", "a"), loose("w000002.log", ""))
	is(t, "Sync of a record without bytes", l.Sync(), api.OK)
	holds(t, d, firm("w000001.log", "a"), firm("w000002.log", ""))
	is(t, "Sync once more", l.Sync(), api.ErrCrashed)
	d = vdisk.New(api.Plan{})
	l = open(t, d, 20)
	is(t, "crash", d.Append("a", nil), api.ErrCrashed)
	is(t, "Sync without a record", l.Sync(), api.OK)
	is(t, "Append", l.Append(nil), api.ErrCrashed)
	is(t, "Sync without a record", l.Sync(), api.OK)
	at(t, l, 1)
}

func TestDrop(t *testing.T) {
	all := []api.File{firm("w000001.log", "1"), firm("w000002.log", "2"), firm("w000005.log", "5"), firm("w000006.log", "6"), loose("w000007.log", "7")}
	for _, c := range []struct{ below, gone int }{{math.MinInt, 0}, {-1, 0}, {0, 0}, {1, 0}, {2, 1}, {3, 2}, {4, 2}, {5, 2}, {6, 3}, {7, 4}, {8, 4}, {9, 4}, {1000000, 4}, {math.MaxInt, 4}} {
		// The one that is written to stays, be it full or not.
		for _, size := range []int{1, 9} {
			d := of(t, never, all[:3]...)
			l := open(t, d, size, "1", "2", "5")
			puts(t, l, "6")
			if size > 1 {
				l = open(t, d, 100, "1", "2", "5", "6")
			}
			puts(t, l, "7")
			holds(t, d, all...)
			for range 2 {
				is(t, "Drop", l.Drop(c.below), api.OK)
				holds(t, d, all[c.gone:]...)
			}
			at(t, l, []int{8, 7}[size/9])
		}
		// Right behind opening nothing is written to that is there.
		d := of(t, never, all[:4]...)
		l := open(t, d, 1, "1", "2", "5", "6")
		is(t, "Drop", l.Drop(c.below), api.OK)
		holds(t, d, all[c.gone:4]...)
		at(t, l, 7)
		puts(t, l, "7")
		holds(t, d, all[c.gone:]...)
	}
	passes(t, passed(t, func(d *vdisk.Disk) api.Errno {
		l, _, errno := wal.Open(d, "w", 1)
		if errno == api.OK {
			errno = l.Drop(6)
		}
		return errno
	}, all[:4]...), all[:4], all[:4], all[:4], all[:4], all[:4], all[1:4], all[2:4], all[3:4])
}

// The disk is asked for the segments, even if none is below.
func TestDropOnACrashedDisk(t *testing.T) {
	d := vdisk.New(api.Plan{})
	l := open(t, d, 1)
	is(t, "Drop", l.Drop(9), api.OK)
	is(t, "crash", d.Append("a", nil), api.ErrCrashed)
	for _, below := range []int{math.MinInt, -1, 0, 1, 2, math.MaxInt} {
		is(t, "Drop", l.Drop(below), api.ErrCrashed)
	}
	at(t, l, 1)
}

// Segments that came from elsewhere are on the disk too, and so are those that went.
func TestSegmentsFromElsewhere(t *testing.T) {
	d := vdisk.New(never)
	l := open(t, d, 1)
	puts(t, l, "1", "2")
	is(t, "Append", d.Append("w000009.log", []byte("x")), api.OK)
	is(t, "Drop", l.Drop(9), api.OK)
	holds(t, d, loose("w000002.log", "2"), file("w000009.log", "x", 0))
	is(t, "Drop", l.Drop(10), api.OK)
	holds(t, d, loose("w000002.log", "2"))
	is(t, "Delete", d.Delete("w000002.log"), api.OK)
	is(t, "Sync of what is gone", l.Sync(), api.ErrNoFile)
	is(t, "Append behind what is gone", l.Append(nil), api.ErrNoFile)
	at(t, l, 3)
	is(t, "Drop", l.Drop(10), api.OK)
}
