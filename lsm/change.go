package lsm

import (
	"slices"

	"usance/api"
	"usance/compact"
	"usance/manifest"
	"usance/table"
)

// Flush writes what is in memory to a table and lets the log go; or answers ErrNil, ErrRange where IDs have run out, what the disk answers.
func (s *Store) Flush() api.Errno {
	if s == nil {
		return api.ErrNil
	}
	return s.note(s.flush())
}

// Compact does what Pick tells, once, and answers whether that was anything; what is seen at mark or later stays, where mark is held within the store's own, which it is then, and the last write. Or it answers ErrNil, ErrRange, ErrLong, what the disk answers, ErrCorrupt.
func (s *Store) Compact(mark int) (bool, api.Errno) {
	if s == nil {
		return false, api.ErrNil
	}
	if mark < 0 {
		return false, api.ErrRange
	}
	mark = min(max(mark, s.mark), s.last)
	ids, level, ok := compact.Pick(s.version, s.options.Fan)
	if ok {
		if errno := s.note(s.makeOne(ids, level, mark)); errno != api.OK {
			return false, errno
		}
	}
	s.mark = mark
	return ok, api.OK
}

// flush changes nothing here before all is done on the disk, so that a store whose disk crashes stays as it was.
func (s *Store) flush() api.Errno {
	version, tables, errno := s.stow()
	if errno != api.OK {
		return errno
	}
	log, errno := s.freshLog()
	if errno != api.OK {
		return errno
	}
	s.version, s.tables, s.log, s.memory = version, tables, log, newMemory(s.options)
	return api.OK
}

// stow writes what is in memory to a table and answers the version that this makes, with its tables; where nothing is, those that there are.
func (s *Store) stow() (api.Version, []stored, api.Errno) {
	if s.memory.table.Len() == 0 {
		return s.version, s.tables, api.OK
	}
	// Where IDs have run out each write asks for this, and there would be ever more in memory to be gone over for nothing.
	if manifest.Name(s.version.Next) == "" {
		return api.Version{}, nil, api.ErrRange
	}
	entries := slices.Collect(s.memory.table.Entries(nil, nil))
	return s.change([][]api.Entry{entries}, 0, nil, s.last)
}

// makeOne makes of the tables with these IDs new ones at a level, without what nobody needs who looks at mark or later.
func (s *Store) makeOne(ids []int, level, mark int) api.Errno {
	var lists [][]api.Entry
	for _, t := range s.tables {
		if !has(ids, t) {
			continue
		}
		l, errno := t.list(nil, nil)
		if errno != api.OK {
			return errno
		}
		lists = append(lists, l)
	}
	pieces, errno := compact.Run(lists, mark, compact.Bottom(s.version, ids, level), s.options.Size)
	if errno != api.OK {
		return fault(errno)
	}
	version, tables, errno := s.change(pieces, level, ids, s.version.Seq)
	if errno != api.OK {
		return errno
	}
	s.version, s.tables = version, tables
	return api.OK
}

// change lets tables of the pieces take the place of those with the dropped IDs, on the disk and for good, and answers the version that this makes, with its tables. Where that is refused, and the disk hasn't crashed, it is as it was.
func (s *Store) change(pieces [][]api.Entry, level int, drop []int, seq int) (api.Version, []stored, api.Errno) {
	edit := s.edit(pieces, level, drop, seq)
	// Ahead of all files: what may not be leaves none.
	version, errno := manifest.Fold(s.version, edit)
	if errno != api.OK {
		return api.Version{}, nil, errno
	}
	if s.crashed {
		return api.Version{}, nil, api.ErrCrashed
	}
	added, errno := s.write(edit.Add, pieces)
	if errno == api.OK {
		errno = s.manifest.Apply(edit)
	}
	// The version doesn't have what was dropped now; or, where the change was refused, what was written for it.
	if _, worse := s.manifest.Sweep(); worse != api.OK {
		return api.Version{}, nil, worse
	}
	if errno != api.OK {
		return api.Version{}, nil, errno
	}
	left := slices.DeleteFunc(slices.Clone(s.tables), func(t stored) bool { return has(drop, t) })
	return version, append(left, added...), api.OK
}

// edit answers the change by which tables of the pieces come and those with the dropped IDs go.
func (s *Store) edit(pieces [][]api.Entry, level int, drop []int, seq int) api.Edit {
	e := api.Edit{Drop: drop, Log: max(s.version.Log, firstSegment), Seq: seq}
	for i, p := range pieces {
		lo, hi := p[0].Key, p[len(p)-1].Key
		e.Add = append(e.Add, api.Table{ID: s.version.Next + i, Level: level, Count: len(p), Lo: lo, Hi: hi})
	}
	return e
}

// write lays the pieces into new files and answers their tables.
func (s *Store) write(told []api.Table, pieces [][]api.Entry) ([]stored, api.Errno) {
	for i, p := range pieces {
		if errno := table.Write(s.disk, manifest.Name(told[i].ID), p, s.options.Block); errno != api.OK {
			return nil, errno
		}
	}
	return openAll(s.disk, told)
}

// has tells whether the table is one of those with the IDs, which rise.
func has(ids []int, t stored) bool {
	_, ok := slices.BinarySearch(ids, t.told.ID)
	return ok
}
