package lsm

import (
	"usance/api"
	"usance/merge"
)

// Get answers the key's value as of a number and true, none and false if there is none; or ErrNil, ErrRange, ErrCorrupt.
func (s *Store) Get(key []byte, seq int) ([]byte, bool, api.Errno) {
	if s == nil {
		return nil, false, api.ErrNil
	}
	if seq < s.mark {
		return nil, false, api.ErrRange
	}
	var last api.Entry
	for from := range s.sources() {
		e, ok, errno := from.get(key, min(seq, s.last))
		if errno != api.OK {
			return nil, false, fault(errno)
		}
		if ok && e.Seq > last.Seq {
			last = e
		}
	}
	// Without an entry the number is 0, which no entry has.
	if last.Seq == 0 || last.Dead {
		return nil, false, api.OK
	}
	return last.Value, true, api.OK
}

// Scan answers the pairs as of a number whose keys are not below lo and below hi, an empty hi being no bound; or ErrNil, ErrRange, ErrCorrupt.
func (s *Store) Scan(lo, hi []byte, seq int) ([]api.Pair, api.Errno) {
	if s == nil {
		return nil, api.ErrNil
	}
	if seq < s.mark {
		return nil, api.ErrRange
	}
	var lists [][]api.Entry
	for from := range s.sources() {
		l, errno := from.list(lo, hi)
		if errno != api.OK {
			return nil, fault(errno)
		}
		lists = append(lists, l)
	}
	merged, errno := merge.Merge(lists)
	if errno != api.OK {
		return nil, fault(errno)
	}
	pairs, errno := merge.Visible(merged, min(seq, s.last))
	return pairs, fault(errno)
}
