package wal_test

import (
	"bytes"
	"slices"
	"strings"
	"testing"

	"usance/api"
	"usance/vdisk"
	"usance/wal"
)

// spoil writes over the whole list, its spare room too.
func spoil(b []byte) {
	b = b[:cap(b)]
	for i := range b {
		b[i] = 'x'
	}
}

// What is handed in stays as it is, spare room included, and isn't kept (R4).
func TestRecordsAreNotKept(t *testing.T) {
	for n := range 10 {
		d := vdisk.New(never)
		l := open(t, d, 20)
		whole := []byte("0123456789")
		for range 3 {
			is(t, "Append", l.Append(whole[:n]), api.OK)
		}
		if string(whole) != "0123456789" {
			t.Fatalf("what was handed in became %q", whole)
		}
		spoil(whole)
		open(t, d, 20, slices.Repeat([]string{"0123456789"[:n]}, 3)...)
	}
}

// What is answered is nobody else's: neither the disk's nor an earlier answer's, nor does one list of it share with another one (R4).
func TestRecordsAreNewMemory(t *testing.T) {
	want := []string{"a", "", "bcd", "e", "fg", "", "h"}
	d := of(t, never, loose("w000001.log", want[:4]...), firm("w000003.log", want[4:6]...), file("w000004.log", framed(want[6:]...)+"rest", 0))
	_, first, _ := wal.Open(d, "w", 20)
	_, second, _ := wal.Open(d, "w", 20)
	for i, record := range first {
		spoil(record)
		if !slices.Equal(asTexts(first[i+1:]), want[i+1:]) {
			t.Fatalf("with record %d those behind it became %s", i, texts(first[i+1:]))
		}
	}
	first = first[:cap(first)]
	for i := range first {
		first[i] = []byte("x")
	}
	if !slices.Equal(asTexts(second), want) {
		t.Errorf("an answer became %s", texts(second))
	}
	l := open(t, d, 20, want...)
	puts(t, l, "i")
	is(t, "Drop", l.Drop(4), api.OK)
	open(t, d, 20, "h", "i")
	if !slices.Equal(asTexts(second), want) {
		t.Errorf("an answer became %s", texts(second))
	}
}

// Logs of several prefixes share a disk and nothing else (R5).
func TestLogsAreApart(t *testing.T) {
	d := vdisk.New(never)
	prefixes := []string{"a", "aa", "ab", "b", "aaaaaaaa"}
	var logs []*wal.Log
	for i, prefix := range prefixes {
		l, _, errno := wal.Open(d, prefix, 1+20*i)
		is(t, "Open", errno, api.OK)
		logs = append(logs, l)
	}
	for n := range 7 {
		for i, l := range logs {
			is(t, "Append", l.Append(bytes.Repeat([]byte{'a' + byte(i)}, n)), api.OK)
		}
	}
	is(t, "Drop", logs[1].Drop(99), api.OK)
	is(t, "Append", d.Append("ab000001.log", []byte("rest")), api.OK)
	for i, prefix := range prefixes {
		_, records, errno := wal.Open(d, prefix, 9)
		is(t, "Open", errno, api.OK)
		var want []string
		for n := range 7 {
			want = append(want, strings.Repeat(string('a'+rune(i)), n))
		}
		switch prefix {
		case "aa": // of 21 bytes or more: two segments ahead of the last one
			want = want[5:]
		case "ab": // of 41 bytes or more: what was behind the first one was behind a broken one
			want = want[:5]
		}
		if !slices.Equal(asTexts(records), want) {
			t.Errorf("Open(%q): %s, not %q", prefix, texts(records), want)
		}
	}
}

// Many segments and long ones: nothing takes as long as all that is there, again and again.
func TestMany(t *testing.T) {
	d := vdisk.New(never)
	small := open(t, d, 1)
	large, _, errno := wal.Open(d, "large", 1<<20)
	is(t, "Open", errno, api.OK)
	const many = 30000
	var want []string
	for i := range many {
		record := strings.Repeat(string('a'+rune(i%26)), i%50)
		want = append(want, record)
		puts(t, small, record)
		puts(t, large, record)
	}
	at(t, small, many+1)
	at(t, large, 1)
	open(t, d, 1, want...)
	is(t, "Drop", small.Drop(many-1), api.OK)
	open(t, d, 1, want[many-2:]...)
	_, records, errno := wal.Open(d, "large", 1)
	if !slices.Equal(asTexts(records), want) || errno != api.OK {
		t.Errorf("Open: %d records, %d", len(records), errno)
	}
}
