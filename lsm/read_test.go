package lsm_test

import (
	"bytes"
	"fmt"
	"math"
	"testing"

	"usance/api"
	"usance/vdisk"
)

// Reads at all numbers, over all ranges of keys, wherever the versions stand: in memory, in tables of several levels, in both (P15.3).
func TestReads(t *testing.T) {
	bounds := []string{"", "\x00", "a", "a\x00", "aa", "ab", "b", "c", "\xff"}
	for shift := range 6 {
		d := vdisk.New(never)
		s := open(t, d, small)
		var p past
		for i, texts := range [][]string{{"a=1", "b=1"}, {"aa=2"}, {"a", "aa="}, {"b=4", "c=4", "ab=4"}, {"aa"}, {"a=6"}, {"b", "c="}} {
			p = p.writes(t, s, texts...)
			if (i+shift)%3 == 0 {
				is(t, "Flush", s.Flush(), api.OK)
			}
			if (i+shift)%2 == 0 {
				if _, errno := s.Compact(0); errno != api.OK {
					t.Fatal(errno)
				}
			}
			for seq := range len(p) + 2 {
				for _, lo := range bounds {
					gets(t, s, p, lo, seq)
					for _, hi := range bounds {
						scans(t, s, p, lo, hi, seq)
					}
				}
			}
		}
	}
}

// The bounds of what is asked: numbers below Mark and above Last, keys that can't be there (P15.3).
func TestReadBounds(t *testing.T) {
	s := open(t, vdisk.New(never), small)
	var p past
	for i := range 5 {
		p = p.writes(t, s, fmt.Sprintf("a=%d", i), fmt.Sprintf("b=%d", i))
	}
	for mark := range 6 {
		if _, errno := s.Compact(mark); errno != api.OK {
			t.Fatal(errno)
		}
		shows(t, s, p, mark)
		for _, seq := range []int{math.MinInt, -1, mark - 1} {
			if _, _, errno := s.Get([]byte("a"), seq); errno != api.ErrRange {
				t.Fatalf("Get at %d with mark %d: %d", seq, mark, errno)
			}
			if _, errno := s.Scan([]byte("b"), []byte("a"), seq); errno != api.ErrRange {
				t.Fatalf("Scan at %d with mark %d: %d", seq, mark, errno)
			}
		}
		for _, key := range [][]byte{nil, {}, {0}, bytes.Repeat([]byte("a"), 1000), {255}} {
			if value, ok, errno := s.Get(key, 5); errno != api.OK || ok || len(value) > 0 {
				t.Fatalf("Get of %q: %q, %t, %d", key, value, ok, errno)
			}
		}
		gets(t, s, p, "a", math.MaxInt)
		scans(t, s, p, string(bytes.Repeat([]byte("a"), 1000)), "", 5)
		scans(t, s, p, "a", string(bytes.Repeat([]byte("a"), 1000)), 5)
		scans(t, s, p, "b", "a", 5)
		scans(t, s, p, "a", "a", 5)
	}
}

// A value without bytes is there; one that is gone isn't (P15.3).
func TestEmptyValue(t *testing.T) {
	d := vdisk.New(never)
	s := open(t, d, roomy)
	p := past{}.writes(t, s, "a=", "b=x")
	p = p.writes(t, s, "b=", "a")
	for range 2 {
		if value, ok, errno := s.Get([]byte("b"), 2); errno != api.OK || !ok || len(value) > 0 {
			t.Fatalf("b: %q, %t, %d", value, ok, errno)
		}
		shows(t, s, p, s.Mark())
		is(t, "Flush", s.Flush(), api.OK)
		s = open(t, d, roomy)
	}
}
