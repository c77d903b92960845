// Package entry tells of versions what the words of layer 10 say of them (see shared/doc/10-table.md): which may be, and their order. All layers that hold lists of them ask it.
package entry

import (
	"bytes"
	"cmp"

	"usance/api"
)

// MostSeq is the greatest sequence number of an entry.
const MostSeq = 1 << 40

// Order is below, at or above nought as x stands ahead of y in a list, at its place, or behind it.
func Order(x, y api.Entry) int {
	return cmp.Or(bytes.Compare(x.Key, y.Key), cmp.Compare(y.Seq, x.Seq))
}

// MayStand tells whether each of the entries may be, and stands behind the one ahead.
func MayStand(entries []api.Entry) bool {
	for i, e := range entries {
		if !MayBe(e) || i > 0 && Order(entries[i-1], e) >= 0 {
			return false
		}
	}
	return true
}

// MayBe tells whether there may be such an entry in a list.
func MayBe(e api.Entry) bool {
	if len(e.Key) == 0 || len(e.Key) > api.MaxKey || e.Seq < 1 || e.Seq > MostSeq {
		return false
	}
	if e.Dead {
		return len(e.Value) == 0
	}
	return len(e.Value) <= api.MaxValue
}

// Below tells whether a key is below the end of a range, an empty one being no bound.
func Below(key, hi []byte) bool {
	return len(hi) == 0 || bytes.Compare(key, hi) < 0
}

// Clone answers the entry with memory of its own.
func Clone(e api.Entry) api.Entry {
	e.Key, e.Value = bytes.Clone(e.Key), bytes.Clone(e.Value)
	return e
}
