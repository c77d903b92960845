package lsm_test

import (
	"bytes"
	"fmt"
	"slices"
	"testing"

	"usance/api"
	"usance/lsm"
	"usance/vdisk"
)

// spare is a copy of the bytes with room behind them, all of which has one mark.
func spare(b string) []byte {
	s := append(make([]byte, 0, len(b)+8), b...)
	rest := s[len(s):cap(s)]
	for i := range rest {
		rest[i] = '!'
	}
	return s
}

// isWhole tells that bytes that spare made stand as they were.
func isWhole(t *testing.T, s []byte, b string) {
	t.Helper()
	if string(s) != b || len(bytes.Trim(s[len(s):cap(s)], "!")) > 0 {
		t.Fatalf("%q, not %q with its room", s[:cap(s)], b)
	}
}

// spoil writes over bytes, and the room behind them.
func spoil(b []byte) {
	b = b[:cap(b)]
	for i := range b {
		b[i] = '?'
	}
}

// What is handed in stays, and isn't kept (R4).
func TestHandedIn(t *testing.T) {
	d := vdisk.New(never)
	o := small
	o.Heights = append(make([]int, 0, 8), 1, 3, 2)
	s := open(t, d, o)
	var p past
	for i := range 12 {
		key, value, gone := spare("a"), spare(fmt.Sprint(i)), spare("b")
		batch := append(make([]api.Op, 0, 4), api.Op{Key: key, Value: value}, api.Op{Key: gone, Dead: true})
		if _, errno := s.Write(batch); errno != api.OK {
			t.Fatal(errno)
		}
		isWhole(t, key, "a")
		isWhole(t, value, fmt.Sprint(i))
		isWhole(t, gone, "b")
		if len(batch[:4][2].Key) > 0 || len(batch[:4][3].Key) > 0 {
			t.Fatal("the room of the batch was written to")
		}
		spoil(key)
		spoil(value)
		spoil(gone)
		clear(batch[:4])
		p = append(p, ops(fmt.Sprintf("a=%d", i), "b"))
		shows(t, s, p, s.Mark())
		if i%3 == 0 {
			if _, errno := s.Compact(i / 2); errno != api.OK {
				t.Fatal(errno)
			}
		}
	}
	lo, hi := spare("a"), spare("b")
	if _, errno := s.Scan(lo, hi, 12); errno != api.OK {
		t.Fatal(errno)
	}
	if _, _, errno := s.Get(lo, 12); errno != api.OK {
		t.Fatal(errno)
	}
	isWhole(t, lo, "a")
	isWhole(t, hi, "b")
	if !slices.Equal(o.Heights[:cap(o.Heights)], []int{1, 3, 2, 0, 0, 0, 0, 0}) {
		t.Fatalf("heights %v", o.Heights[:cap(o.Heights)])
	}
	shows(t, open(t, d, o), p, 12)
}

// The heights aren't kept as they are: what is written over them changes no memory that begins later, nor what is shown (R4).
func TestHeightsHandedIn(t *testing.T) {
	o := small
	o.Heights = slices.Repeat([]int{1, 2, 3, 12}, 16)
	s := open(t, vdisk.New(never), o)
	var p past
	for i := range 40 {
		for k := range o.Heights {
			o.Heights[k] = i - k
		}
		p = p.writes(t, s, fmt.Sprintf("%c=%d", 'a'+i*3%8, i))
		shows(t, s, p, 0)
	}
}

// What is answered is new memory: whoever writes over it, and over the room behind it, changes nothing (R4).
func TestAnswered(t *testing.T) {
	for _, o := range []api.Options{small, roomy} {
		d := vdisk.New(never)
		s := open(t, d, o)
		var p past
		for i := range 8 {
			p = p.writes(t, s, fmt.Sprintf("%c=%d", 'a'+i%4, i), fmt.Sprintf("%c=%d", 'e'+i%4, i))
			if _, errno := s.Compact(i); errno != api.OK {
				t.Fatal(errno)
			}
		}
		before, version := onDisk(d), toldVersion(s.Version())
		for range 2 {
			value, _, errno := s.Get([]byte("a"), 8)
			is(t, "Get", errno, api.OK)
			pairs, errno := s.Scan(nil, nil, 8)
			is(t, "Scan", errno, api.OK)
			for i := range pairs {
				spoil(pairs[i].Key)
				for k, other := range pairs {
					if k != i && (string(other.Key) == "?" && k > i || bytes.Contains(other.Value, []byte("?")) && k >= i) {
						t.Fatalf("pairs %d and %d share memory", i, k)
					}
				}
				spoil(pairs[i].Value)
			}
			spoil(value)
			clear(pairs[:cap(pairs)])
			v := s.Version()
			for _, told := range v.Tables {
				spoil(told.Lo)
				spoil(told.Hi)
			}
			clear(v.Tables[:cap(v.Tables)])
			shows(t, s, p, s.Mark())
			if toldVersion(s.Version()) != version || onDisk(d) != before {
				t.Fatalf("version %s, not %s", toldVersion(s.Version()), version)
			}
		}
		is(t, "Flush", s.Flush(), api.OK)
		shows(t, open(t, d, o), p, 8)
	}
}

// The same calls make the same disks, and answer the same (R5).
func TestSame(t *testing.T) {
	var disks [2]*vdisk.Disk
	var stores [2]*lsm.Store
	for i := range disks {
		disks[i] = vdisk.New(never)
		stores[i] = open(t, disks[i], small)
		story(t, stores[i], nil, 40)
	}
	if onDisk(disks[0]) != onDisk(disks[1]) || toldVersion(stores[0].Version()) != toldVersion(stores[1].Version()) {
		t.Fatal("the same calls, and other disks")
	}
}

// Many writes, tables and keys end soon.
func TestMany(t *testing.T) {
	d := vdisk.New(never)
	o := api.Options{Mem: 500, Size: 1000, Block: 50, Fan: 4, Heights: []int{1, 2, 1, 3, 1, 2, 1, 4}}
	s := open(t, d, o)
	const writes, keys = 30000, 7001
	for i := range writes {
		if _, errno := s.Write(ops(fmt.Sprintf("k%04d=%d", i*31%keys, i))); errno != api.OK {
			t.Fatal(errno)
		}
		if i%500 == 0 {
			if _, errno := s.Compact(i); errno != api.OK {
				t.Fatal(errno)
			}
		}
	}
	for range 2 {
		pairs, errno := s.Scan(nil, nil, writes)
		is(t, "Scan", errno, api.OK)
		if len(pairs) != keys {
			t.Fatalf("%d pairs", len(pairs))
		}
		for i := writes - keys; i < writes; i++ {
			key := fmt.Sprintf("k%04d", i*31%keys)
			if value, ok, errno := s.Get([]byte(key), writes); errno != api.OK || !ok || string(value) != fmt.Sprint(i) {
				t.Fatalf("%s: %q, %t, %d", key, value, ok, errno)
			}
		}
		s = open(t, d, o)
	}
}
