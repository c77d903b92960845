package compact

import (
	"bytes"
	"slices"

	"usance/api"
	"usance/merge"
)

// Run answers the entries of the lists, made one, without those that nobody needs who looks at mark or later, in pieces of size entries, or of so many more that no key is in two of them; or ErrRange, ErrKey, ErrTwice.
func Run(lists [][]api.Entry, mark int, bottom bool, size int) ([][]api.Entry, api.Errno) {
	if size < 1 {
		return nil, api.ErrRange
	}
	merged, errno := merge.Merge(lists)
	if errno != api.OK {
		return nil, errno
	}
	thin, errno := merge.Thin(merged, mark, bottom)
	if errno != api.OK {
		return nil, errno
	}
	return cut(thin, size), api.OK
}

// cut answers the entries in pieces, each with memory of its own.
func cut(entries []api.Entry, size int) [][]api.Entry {
	var pieces [][]api.Entry
	from := 0
	for i, e := range entries {
		isLast := i+1 == len(entries)
		if isLast || i+1-from >= size && !bytes.Equal(e.Key, entries[i+1].Key) {
			pieces = append(pieces, slices.Clone(entries[from:i+1]))
			from = i + 1
		}
	}
	return pieces
}
