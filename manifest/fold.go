package manifest

import (
	"bytes"
	"cmp"
	"slices"

	"usance/api"
)

const mostTables = 1024 // that an edit adds, and that it drops

// Fold answers the version that the edit makes of v; or ErrLong, ErrNone, ErrRange, ErrKey, ErrTwice.
func Fold(v api.Version, e api.Edit) (api.Version, api.Errno) {
	if len(e.Add) > mostTables || len(e.Drop) > mostTables {
		return api.Version{}, api.ErrLong
	}
	there, gone := setOf(v.Tables), tableSet{}
	for _, id := range e.Drop {
		if !there.has(id) || !gone.put(id) {
			return api.Version{}, api.ErrNone
		}
	}
	if e.Log < v.Log || e.Seq < v.Seq {
		return api.Version{}, api.ErrRange
	}
	// Asked with the dropped ones among those that are there: an ID is never given twice.
	if errno := mayAdd(e.Add, there); errno != api.OK {
		return api.Version{}, errno
	}
	tables := slices.DeleteFunc(slices.Concat(v.Tables, e.Add), func(t api.Table) bool { return gone.has(t.ID) })
	slices.SortStableFunc(tables, func(x, y api.Table) int { return cmp.Compare(x.ID, y.ID) })
	return api.Version{Tables: cloned(tables), Log: e.Log, Seq: e.Seq, Next: next(v.Next, e.Add)}, api.OK
}

// mayAdd answers OK if the tables may be added to those that are there, or ErrRange, ErrKey, ErrTwice, each asked of all ahead of the next. It puts them in with those.
func mayAdd(tables []api.Table, there tableSet) api.Errno {
	for _, t := range tables {
		if !isInRange(t) {
			return api.ErrRange
		}
	}
	for _, t := range tables {
		if !hasKeys(t) {
			return api.ErrKey
		}
	}
	for _, t := range tables {
		if !there.put(t.ID) {
			return api.ErrTwice
		}
	}
	return api.OK
}

func isInRange(t api.Table) bool {
	return isID(t.ID) && 0 <= t.Level && t.Level <= api.MaxLevel && t.Count >= 1
}

func hasKeys(t api.Table) bool {
	return isKey(t.Lo) && isKey(t.Hi) && bytes.Compare(t.Lo, t.Hi) <= 0
}

func isKey(b []byte) bool { return 1 <= len(b) && len(b) <= api.MaxKey }

// next answers the least ID above the added ones', and not below what it was.
func next(least int, added []api.Table) int {
	least = max(least, 1)
	for _, t := range added {
		least = max(least, t.ID+1)
	}
	return least
}

// cloned answers the tables with memory of their own.
func cloned(tables []api.Table) []api.Table {
	own := slices.Clone(tables)
	for i, t := range own {
		own[i].Lo, own[i].Hi = bytes.Clone(t.Lo), bytes.Clone(t.Hi)
	}
	return own
}

// tableKey is what tells tables apart: of all that is known of them the ID alone.
type tableKey struct{ id int }

// tableSet holds tables, each once.
type tableSet map[tableKey]struct{}

func setOf(tables []api.Table) tableSet {
	s := tableSet{}
	for _, t := range tables {
		s.put(t.ID)
	}
	return s
}

func (s tableSet) has(id int) bool {
	_, ok := s[tableKey{id}]
	return ok
}

// put tells whether the table wasn't there yet.
func (s tableSet) put(id int) bool {
	there := s.has(id)
	s[tableKey{id}] = struct{}{}
	return !there
}
