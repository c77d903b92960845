package table

import (
	"bytes"
	"cmp"

	"usance/api"
)

const mostSeq = 1 << 40 // the greatest sequence number of an entry

// order is below, at or above nought as x stands ahead of y in a table, at its place, or behind it.
func order(x, y api.Entry) int {
	return cmp.Or(bytes.Compare(x.Key, y.Key), cmp.Compare(y.Seq, x.Seq))
}

// mayStand tells whether each of the entries may be, and stands behind the one ahead.
func mayStand(entries []api.Entry) bool {
	for i, e := range entries {
		if !mayBe(e) || i > 0 && order(entries[i-1], e) >= 0 {
			return false
		}
	}
	return true
}

func mayBe(e api.Entry) bool {
	if len(e.Key) == 0 || len(e.Key) > api.MaxKey || e.Seq < 1 || e.Seq > mostSeq {
		return false
	}
	if e.Dead {
		return len(e.Value) == 0
	}
	return len(e.Value) <= api.MaxValue
}

// sameKey answers how many of the entries, from the first on, have its key.
func sameKey(entries []api.Entry) int {
	n := 0
	for n < len(entries) && bytes.Equal(entries[n].Key, entries[0].Key) {
		n++
	}
	return n
}

func clone(e api.Entry) api.Entry {
	e.Key, e.Value = bytes.Clone(e.Key), bytes.Clone(e.Value)
	return e
}
