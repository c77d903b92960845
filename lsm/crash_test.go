package lsm_test

import (
	"fmt"
	"slices"
	"strings"
	"testing"

	"usance/api"
	"usance/lsm"
	"usance/manifest"
	"usance/vdisk"
)

// keeps are Keeps of few bytes and of many, of one file or of several.
func keeps() [][]int {
	return [][]int{nil, {1}, {3, 2, 1}, {11, 13, 17}, {23, 4}, {1 << 30, 1 << 30, 1 << 30}, {-1, -1, -1}}
}

// story writes batches, with flushes and compactions between them, up to the first call that doesn't answer OK. It answers what was written, and whether a Write was refused.
func story(t *testing.T, s *lsm.Store, p past, length int) (past, bool) {
	t.Helper()
	for i := range length {
		texts := []string{fmt.Sprintf("%c=%d", 'a'+i*3%8, i)}
		if i%3 == 1 {
			texts = append(texts, fmt.Sprintf("%c", 'a'+(i*5+1)%8))
		}
		seq, errno := s.Write(ops(texts...))
		if errno != api.OK {
			is(t, "Write", errno, api.ErrCrashed)
			if seq != 0 {
				t.Fatalf("Write: %d beside an error", seq)
			}
			return append(p, ops(texts...)), true
		}
		p = append(p, ops(texts...))
		if i%4 == 3 {
			errno = s.Flush()
		} else if i%2 == 1 {
			_, errno = s.Compact(max(0, i-3))
		}
		if errno != api.OK {
			is(t, "Flush, Compact", errno, api.ErrCrashed)
			return p, false
		}
	}
	return p, false
}

// stays tells that a store whose disk has crashed shows what it showed, and that what needs the disk answers ErrCrashed.
func stays(t *testing.T, s *lsm.Store, p past) {
	t.Helper()
	mark, version := s.Mark(), toldVersion(s.Version())
	for range 2 {
		shows(t, s, p, mark)
		seq, errno := s.Write(ops("a=new"))
		is(t, "Write behind a crash", errno, api.ErrCrashed)
		if seq != 0 {
			t.Fatalf("Write: %d beside an error", seq)
		}
		is(t, "Flush behind a crash", s.Flush(), api.ErrCrashed)
		if got := toldVersion(s.Version()); got != version {
			t.Fatalf("version %s behind a crash, not %s", got, version)
		}
		shows(t, s, p, mark)
	}
}

// opens opens the store, twice, and tells that each time the same content stands, that of p or, where its last write was refused, without it; it answers what stands.
func opens(t *testing.T, d *vdisk.Disk, o api.Options, p past, refused bool) past {
	t.Helper()
	s := open(t, d, o)
	if refused && s.Last() == len(p)-1 {
		p = p[:len(p)-1]
	}
	shows(t, s, p, len(p))
	for _, name := range filesOf(t, d) {
		isOwn := func(told api.Table) bool { return name == manifest.Name(told.ID) }
		if !strings.HasSuffix(name, ".log") && !slices.ContainsFunc(s.Version().Tables, isOwn) {
			t.Fatalf("%s is left of a crash", name)
		}
	}
	version := toldVersion(s.Version())
	s = open(t, d, o)
	shows(t, s, p, len(p))
	if got := toldVersion(s.Version()); got != version {
		t.Fatalf("opened once more: %s, not %s", got, version)
	}
	return p
}

// Behind a crash at any change, with any of the bytes that weren't synced, all stands that was answered, and of what wasn't all or nothing; opened once more it is the same, and the story goes on from there (P15.1, P15.5).
func TestCrashes(t *testing.T) {
	whole := map[bool]int{}
	for _, o := range []api.Options{small, {Mem: 1, Size: 1, Block: 1, Fan: 2}, {Mem: 5, Size: 3, Block: 2, Fan: 3}} {
		for ops := 0; ; ops++ {
			over := false
			for _, keep := range keeps() {
				d := vdisk.New(api.Plan{Ops: ops, Room: -1, Keep: keep})
				s := open(t, d, o)
				p, refused := story(t, s, nil, 12)
				stood := p
				if refused {
					stood = p[:len(p)-1]
				}
				shows(t, s, stood, s.Mark())
				over = !refused && len(p) == 12 && s.Flush() == api.OK
				if _, errno := d.List(); errno == api.ErrCrashed {
					stays(t, s, stood)
				}
				is(t, "Revive", d.Revive(never), api.OK)
				p = opens(t, d, o, p, refused)
				if refused {
					whole[len(p) > len(stood)]++
				}
				s = open(t, d, o)
				p, _ = story(t, s, p, 8)
				shows(t, s, p, s.Mark())
			}
			if over {
				break
			}
		}
	}
	if whole[true] == 0 || whole[false] == 0 {
		t.Fatalf("of refused writes %d were there, %d not", whole[true], whole[false])
	}
}

// A store whose disk has crashed doesn't write to it any more, even if it is revived: what stands there the store doesn't know.
func TestCrashedStays(t *testing.T) {
	for ops := range 200 {
		d := vdisk.New(api.Plan{Ops: ops, Room: -1, Keep: []int{ops}})
		s := open(t, d, small)
		p, refused := story(t, s, nil, 16)
		if _, errno := d.List(); errno != api.ErrCrashed {
			continue
		}
		stood := p
		if refused {
			stood = p[:len(p)-1]
		}
		is(t, "Revive", d.Revive(never), api.OK)
		before := onDisk(d)
		stays(t, s, stood)
		if onDisk(d) != before {
			t.Fatal("a crashed store wrote to the disk")
		}
		opens(t, d, small, p, refused)
	}
}

// A crash at any change of Open: opened once more the store is as it was (P15.5).
func TestOpenCrashes(t *testing.T) {
	for first := 0; first < 120; first++ {
		for _, keep := range [][]int{nil, {3, 2, 1}, {1 << 30, 1 << 30, 1 << 30}} {
			for second := 0; ; second++ {
				d := vdisk.New(api.Plan{Ops: first, Room: -1, Keep: keep})
				p, refused := story(t, open(t, d, small), nil, 16)
				is(t, "Revive", d.Revive(api.Plan{Ops: second, Room: -1, Keep: keep}), api.OK)
				s, errno := lsm.Open(d, small)
				if errno != api.OK {
					is(t, "Open", errno, api.ErrCrashed)
					if s != nil {
						t.Fatal("a store beside an error")
					}
				}
				is(t, "Revive", d.Revive(never), api.OK)
				opens(t, d, small, p, refused)
				if errno == api.OK {
					break
				}
			}
		}
	}
}

// Crashes one behind the other: each time some more is written, and nothing that was answered is lost (P15.1, P15.5).
func TestCrashesOften(t *testing.T) {
	for step := 1; step < 40; step++ {
		for _, keep := range keeps() {
			d := vdisk.New(never)
			var p past
			for range 6 {
				s := open(t, d, small)
				is(t, "Revive", d.Revive(api.Plan{Ops: step, Room: -1, Keep: keep}), api.OK)
				var refused bool
				p, refused = story(t, s, p, 12)
				is(t, "Revive", d.Revive(never), api.OK)
				p = opens(t, d, small, p, refused)
			}
		}
	}
}

// What doesn't need the disk is answered behind a crash, too: a Compact that finds nothing to be done, and what is refused.
func TestCrashedNeedless(t *testing.T) {
	d := vdisk.New(never)
	s := open(t, d, roomy)
	p := past{}.writes(t, s, "a=1").writes(t, s, "a=2")
	is(t, "Revive", d.Revive(api.Plan{Ops: 0, Room: -1}), api.OK)
	_, errno := s.Write(ops("a=3"))
	is(t, "Write", errno, api.ErrCrashed)
	if ok, errno := s.Compact(1); errno != api.OK || ok || s.Mark() != 1 {
		t.Fatalf("Compact: %t, %d, mark %d", ok, errno, s.Mark())
	}
	if _, errno := s.Compact(-1); errno != api.ErrRange {
		t.Fatalf("Compact(-1): %d", errno)
	}
	shows(t, s, p, 1)
}

// A Write that is in the store is answered so, even if the disk crashes in the flush behind it (P15.2).
func TestFlushBehindWriteCrashes(t *testing.T) {
	for ops := 2; ops < 12; ops++ {
		d := vdisk.New(never)
		o := small
		o.Mem = 1
		s := open(t, d, o)
		is(t, "Revive", d.Revive(api.Plan{Ops: ops, Room: -1, Keep: []int{ops}}), api.OK)
		p := past{}.writes(t, s, "a=1", "b=1")
		shows(t, s, p, 0)
		_, errno := d.List()
		is(t, "Revive", d.Revive(never), api.OK)
		if errno == api.ErrCrashed {
			stays(t, s, p)
		}
		opens(t, d, o, p, false)
	}
}
