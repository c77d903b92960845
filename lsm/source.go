package lsm

import (
	"bytes"
	"iter"
	"slices"

	"usance/api"
	"usance/manifest"
	"usance/memtable"
	"usance/table"
	"usance/vdisk"
)

// source is where entries stand: memory, or a table on the disk.
type source interface {
	// get answers of the key's entries up to a sequence number the last one and true, none and false if there is none.
	get(key []byte, seq int) (api.Entry, bool, api.Errno)
	// list answers the entries whose keys are not below lo and below hi, an empty hi being no bound.
	list(lo, hi []byte) ([]api.Entry, api.Errno)
}

// memory is what isn't in a table yet.
type memory struct{ table *memtable.Table }

func newMemory(o api.Options) memory {
	return memory{memtable.New(o.Heights)}
}

func (m memory) get(key []byte, seq int) (api.Entry, bool, api.Errno) {
	return m.table.Get(key, seq)
}

func (m memory) list(lo, hi []byte) ([]api.Entry, api.Errno) {
	return slices.Collect(m.table.Entries(lo, hi)), api.OK
}

// stored is a table on the disk, with what the version tells of it.
type stored struct {
	told  api.Table
	table *table.Table
}

func (t stored) get(key []byte, seq int) (api.Entry, bool, api.Errno) {
	// A table would read a block even for a key that is beyond all that it has.
	if bytes.Compare(key, t.told.Lo) < 0 || bytes.Compare(key, t.told.Hi) > 0 {
		return api.Entry{}, false, api.OK
	}
	return t.table.Get(key, seq)
}

func (t stored) list(lo, hi []byte) ([]api.Entry, api.Errno) {
	if bytes.Compare(t.told.Hi, lo) < 0 || len(hi) > 0 && bytes.Compare(t.told.Lo, hi) >= 0 {
		return nil, api.OK
	}
	var entries []api.Entry
	for e, errno := range t.table.Entries(lo, hi) {
		if errno != api.OK {
			return nil, errno
		}
		entries = append(entries, e)
	}
	return entries, api.OK
}

// openAll answers the tables of which the version tells this.
func openAll(d *vdisk.Disk, told []api.Table) ([]stored, api.Errno) {
	var tables []stored
	for _, t := range told {
		opened, errno := table.Open(d, manifest.Name(t.ID))
		if errno != api.OK {
			return nil, errno
		}
		if !isAsTold(opened, t) {
			return nil, api.ErrCorrupt
		}
		tables = append(tables, stored{t, opened})
	}
	return tables, api.OK
}

func isAsTold(t *table.Table, told api.Table) bool {
	lo, hi := t.Bounds()
	return t.Count() == told.Count && bytes.Equal(lo, told.Lo) && bytes.Equal(hi, told.Hi)
}

// sources goes over all places where the store's entries stand.
func (s *Store) sources() iter.Seq[source] {
	return func(yield func(source) bool) {
		if !yield(s.memory) {
			return
		}
		for _, t := range s.tables {
			if !yield(t) {
				return
			}
		}
	}
}
