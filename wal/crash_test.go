package wal_test

import (
	"fmt"
	"testing"

	"usance/api"
	"usance/vdisk"
	"usance/wal"
)

// story appends the records from a number on, each of which tells its own, and syncs behind every third; it answers how many were answered OK, and how many of these were synced.
func story(l *wal.Log, from, to int) (taken, synced int) {
	taken, synced = from, from
	for n := from; n < to; n++ {
		if l.Append(fmt.Appendf(nil, "%d", n*n)) != api.OK {
			return taken, synced
		}
		taken = n + 1
		if n%3 == 2 {
			if l.Sync() != api.OK {
				return taken, synced
			}
			synced = taken
		}
	}
	return taken, synced
}

// count tells that the records are those of the story, from the first on without a gap, and answers how many.
func count(t *testing.T, records [][]byte) int {
	t.Helper()
	for n, record := range records {
		if string(record) != fmt.Sprint(n*n) {
			t.Fatalf("record %d of %s", n, texts(records))
		}
	}
	return len(records)
}

// stands opens the log and tells that it has records from least to most, opened once more the same ones; it answers the log and how many they are.
func stands(t *testing.T, d *vdisk.Disk, size, least, most int) (*wal.Log, int) {
	t.Helper()
	_, records, errno := wal.Open(d, "w", size)
	is(t, "Open", errno, api.OK)
	n := count(t, records)
	if n < least || n > most {
		t.Fatalf("%d records, not from %d to %d", n, least, most)
	}
	l, records, errno := wal.Open(d, "w", size)
	is(t, "Open once more", errno, api.OK)
	if got := count(t, records); got != n {
		t.Fatalf("%d records, and once more %d", n, got)
	}
	return l, n
}

// Behind a crash at any change, with any of the bytes that weren't synced, what was synced stands, and the log goes on behind what it has (P8.4).
func TestCrashes(t *testing.T) {
	const records = 12
	for _, size := range []int{1, 10, 20, 35, 1 << 20} {
		for ops := 0; ; ops++ {
			down := false
			for keep := range 120 {
				d := vdisk.New(api.Plan{Ops: ops, Room: -1, Keep: []int{keep}})
				taken, synced := story(open(t, d, size), 0, records)
				down = taken < records || synced < taken
				d.Revive(never)
				l, n := stands(t, d, size, synced, taken)
				if taken, _ = story(l, n, records+5); taken != records+5 {
					t.Fatalf("%d records behind a crash", taken)
				}
				stands(t, d, size, records+5, records+5)
				// What was answered by opening, and what is behind, lasts as if it had been synced.
				is(t, "Sync", l.Sync(), api.OK)
				d.Revive(never)
				stands(t, d, size, records+5, records+5)
			}
			if !down {
				break
			}
		}
	}
}

// A crash while a log is opened, at any change, leaves all that opening would have answered: behind a crash, and where a segment was broken besides.
func TestCrashesOfOpening(t *testing.T) {
	for _, size := range []int{1, 20, 1 << 20} {
		for broken := range 5 {
			for ops := range 20 {
				d := vdisk.New(api.Plan{Ops: ops, Room: -1, Keep: []int{7}})
				story(open(t, d, size), 0, 8)
				d.Revive(never)
				if broken > 0 {
					d.Append(nameOf(broken), []byte("rest"))
					d.Sync(nameOf(broken))
				}
				files := d.Dump()
				_, want, _ := wal.Open(d, "w", size)
				for again := range 12 {
					for keep := range 40 {
						d = of(t, api.Plan{Ops: again, Room: -1, Keep: []int{keep}}, files...)
						wal.Open(d, "w", size)
						d.Revive(never)
						stands(t, d, size, len(want), len(want))
					}
				}
			}
		}
	}
}

// What an opening answered ahead of a crash lasts, though nobody had synced it.
func TestOpenedIsSynced(t *testing.T) {
	for _, size := range []int{1, 20, 1 << 20} {
		d := vdisk.New(never)
		story(open(t, d, size), 0, 8)
		_, n := stands(t, d, size, 8, 8)
		d.Revive(never)
		stands(t, d, size, n, n)
	}
}
