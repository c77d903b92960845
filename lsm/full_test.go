package lsm_test

import (
	"fmt"
	"testing"

	"usance/api"
	"usance/lsm"
	"usance/vdisk"
)

// A disk that is full: what answers ErrFull has changed nothing, neither what the store shows nor what stands on the disk, and the store opens with that room (P15.2, P15.4).
func TestFull(t *testing.T) {
	refused := map[string]int{}
	for room := 0; room < 1500; room += 11 {
		d := vdisk.New(api.Plan{Ops: -1, Room: room})
		s := open(t, d, small)
		var p past
		for i := range 60 {
			before, version, mark := onDisk(d), toldVersion(s.Version()), s.Mark()
			call, errno := "Write", api.OK
			switch i % 8 {
			case 3:
				call, errno = "Flush", s.Flush()
			case 5, 6, 7:
				call = "Compact"
				_, errno = s.Compact(max(0, len(p)-4))
			default:
				texts := []string{fmt.Sprintf("%c=%d", 'a'+i*3%8, i), fmt.Sprintf("%c=%d", 'a'+(i*3+1)%8, i)}
				if _, errno = s.Write(ops(texts...)); errno == api.OK {
					p = append(p, ops(texts...))
				}
			}
			if errno != api.OK {
				is(t, call, errno, api.ErrFull)
				refused[call]++
				if onDisk(d) != before || toldVersion(s.Version()) != version {
					t.Fatalf("room %d: %s was refused:\n%s\n%s", room, call, before, onDisk(d))
				}
				shows(t, s, p, mark)
			}
		}
		shows(t, s, p, s.Mark())
		is(t, "Revive", d.Revive(api.Plan{Ops: -1, Room: room}), api.OK)
		shows(t, open(t, d, small), p, len(p))
		is(t, "Revive", d.Revive(never), api.OK)
		s = open(t, d, small)
		p = p.writes(t, s, "a=last")
		is(t, "Flush", s.Flush(), api.OK)
		isTidy(t, d, s)
		for compacts(t, d, s, small, len(p)) {
		}
		shows(t, s, p, len(p))
	}
	for _, call := range []string{"Write", "Flush", "Compact"} {
		if refused[call] == 0 {
			t.Fatalf("%s was never refused", call)
		}
	}
}

// What hinders the flush behind a Write isn't answered; where there is room again the next Write flushes all that is in memory (P15.2).
func TestFlushHindered(t *testing.T) {
	hindered := 0
	for room := range 300 {
		d := vdisk.New(api.Plan{Ops: -1, Room: room})
		o := small
		o.Mem = 1
		s := open(t, d, o)
		seq, errno := s.Write(ops("a=1", "b=1"))
		if errno != api.OK {
			is(t, "Write", errno, api.ErrFull)
			continue
		}
		if seq != 1 {
			t.Fatalf("number %d", seq)
		}
		if len(s.Version().Tables) > 0 {
			continue
		}
		hindered++
		before := onDisk(d)
		is(t, "Flush", s.Flush(), api.ErrFull)
		if onDisk(d) != before {
			t.Fatal("a Flush that was refused changed the disk")
		}
		is(t, "Revive", d.Revive(never), api.OK)
		p := past{ops("a=1", "b=1")}.writes(t, s, "c=2")
		shows(t, s, p, 0)
		if got := toldVersion(s.Version()); got != `log 1 seq 2 next 2, 1/0/3 "a" "c"` {
			t.Fatalf("version %s", got)
		}
		isTidy(t, d, s)
	}
	if hindered == 0 {
		t.Fatal("no flush was hindered")
	}
}

// A disk that is full and crashes: with the same room the store opens, as it was.
func TestFullCrashes(t *testing.T) {
	for room := 40; room < 900; room += 70 {
		for changes := range 120 {
			for _, keep := range [][]int{nil, {7}, {11, 3}, {1 << 30, 1 << 30, 1 << 30}} {
				d := vdisk.New(api.Plan{Ops: changes, Room: room, Keep: keep})
				s := open(t, d, small)
				p, crashed := fills(t, s)
				is(t, "Revive", d.Revive(api.Plan{Ops: -1, Room: room}), api.OK)
				opens(t, d, small, p, crashed)
			}
		}
	}
}

// Where the disk refuses what opening has to do, that is answered; nothing is in the way of opening it with more room (P15.1).
func TestOpenFull(t *testing.T) {
	torn := []api.File{{Name: "w000001.log", Data: []byte("torn"), Synced: 4}}
	d, errno := vdisk.Of(torn, api.Plan{Ops: -1, Room: 3})
	is(t, "Of", errno, api.OK)
	s, errno := lsm.Open(d, small)
	is(t, "Open", errno, api.ErrFull)
	if s != nil {
		t.Fatal("a store beside an error")
	}
	is(t, "Revive", d.Revive(api.Plan{Ops: -1, Room: 4}), api.OK)
	shows(t, open(t, d, small), nil, 0)
}

// fills writes what there is room for, up to a crash; it answers what was written, and whether a Write met the crash.
func fills(t *testing.T, s *lsm.Store) (past, bool) {
	t.Helper()
	var p past
	for i := range 30 {
		batch := ops(fmt.Sprintf("%c=%d", 'a'+i*3%8, i), fmt.Sprintf("%c=%d", 'a'+(i*3+1)%8, i))
		switch _, errno := s.Write(batch); errno {
		case api.OK:
			p = append(p, batch)
		case api.ErrCrashed:
			return append(p, batch), true
		default:
			is(t, "Write", errno, api.ErrFull)
		}
		if i%3 == 2 {
			s.Compact(len(p))
		}
	}
	return p, false
}

// Where the log is let go and tables are made one, a store lives on a disk of little room for long (P15.4).
func TestLittleRoom(t *testing.T) {
	d := vdisk.New(api.Plan{Ops: -1, Room: 1000})
	s := open(t, d, small)
	var p past
	for i := range 3000 {
		p = p.writes(t, s, fmt.Sprintf("%c=%d", 'a'+i%4, i))
		for {
			ok, errno := s.Compact(len(p))
			is(t, "Compact", errno, api.OK)
			if !ok {
				break
			}
		}
		if i%50 == 0 {
			s = open(t, d, small)
			shows(t, s, p, len(p))
		}
	}
	// Numbers begin anew with each log, so that they don't run out.
	is(t, "Flush", s.Flush(), api.OK)
	p = p.writes(t, s, "a=last")
	if files := filesOf(t, d); files[len(files)-1] != "w000001.log" {
		t.Fatalf("files %q", files)
	}
	shows(t, s, p, s.Mark())
}
