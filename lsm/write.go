package lsm

import (
	"slices"

	"usance/api"
	"usance/entry"
)

// Write puts the batch into the store, for good, and answers its number; or ErrNil, ErrLong, ErrKey, ErrRange, ErrTwice, what the disk answers.
func (s *Store) Write(ops []api.Op) (int, api.Errno) {
	if s == nil {
		return 0, api.ErrNil
	}
	if errno := check(ops); errno != api.OK {
		return 0, errno
	}
	// Only a version that others made begins so high: no entry may have a number above.
	if s.last >= entry.MostSeq {
		return 0, api.ErrRange
	}
	seq := s.last + 1
	if errno := s.note(s.lasting(pack(seq, ops))); errno != api.OK {
		return 0, errno
	}
	s.put(seq, ops)
	// The write lasts already, whatever becomes of this: what is left in memory now is flushed later.
	if s.memory.table.Len() >= s.options.Mem {
		s.note(s.flush())
	}
	return seq, api.OK
}

// put lays a batch into memory that may be written and has the number behind the last one.
func (s *Store) put(seq int, ops []api.Op) {
	for _, op := range ops {
		s.memory.table.Put(api.Entry{Key: op.Key, Seq: seq, Dead: op.Dead, Value: op.Value})
	}
	s.last = seq
}

// check answers OK if the batch may be written, or ErrLong, ErrKey, ErrRange, ErrTwice, each asked of all of it ahead of the next.
func check(ops []api.Op) api.Errno {
	if len(ops) > api.MaxBatch || slices.ContainsFunc(ops, isLong) {
		return api.ErrLong
	}
	if len(ops) == 0 || slices.ContainsFunc(ops, func(op api.Op) bool { return len(op.Key) == 0 }) {
		return api.ErrKey
	}
	if slices.ContainsFunc(ops, func(op api.Op) bool { return op.Dead && len(op.Value) > 0 }) {
		return api.ErrRange
	}
	keys := map[string]struct{}{}
	for _, op := range ops {
		keys[string(op.Key)] = struct{}{}
	}
	if len(keys) < len(ops) {
		return api.ErrTwice
	}
	return api.OK
}

func isLong(op api.Op) bool {
	return len(op.Key) > api.MaxKey || len(op.Value) > api.MaxValue
}
