package table

import (
	"bytes"

	"usance/api"
	"usance/entry"
	"usance/frame"
	"usance/varint"
)

// place is where in a file a block's frame stands.
type place struct {
	from int
	to   int
}

// row is what the index tells of a block.
type row struct {
	first api.Entry // the block's first one, but for its value
	count int
	place place
}

// fileOf answers the bytes of a table: a head, the index, the blocks. The index is a list of entries itself, packed as they are: the first one of each block, with what its row tells beside as the value.
func fileOf(entries []api.Entry, size int) []byte {
	var index []api.Entry
	var blocks []byte
	for _, piece := range pieces(entries, size) {
		f := pack(piece)
		told := varint.AppendUint(varint.AppendUint(nil, uint64(len(piece))), uint64(len(f)))
		index = append(index, api.Entry{Key: piece[0].Key, Seq: piece[0].Seq, Value: told})
		blocks = append(blocks, f...)
	}
	parts := pieces(index, mostPairs)
	greatest := entries[len(entries)-1].Key
	file := framed(varint.AppendBytes(varint.AppendUint(nil, uint64(len(parts))), greatest))
	for _, part := range parts {
		file = append(file, pack(part)...)
	}
	return append(file, blocks...)
}

// tableOf answers the table whose head and index stand in the bytes. The blocks are read when they are asked for.
func tableOf(data []byte) (*Table, bool) {
	n, greatest, at, ok := headOf(data)
	if !ok {
		return nil, false
	}
	index, at, ok := indexAt(data, at, n)
	if !ok || len(index) == 0 || !entry.MayStand(index) {
		return nil, false
	}
	t := &Table{data: data, greatest: greatest, blocks: map[place][]api.Entry{}}
	for _, e := range index {
		r, ok := rowAt(e, at, len(data))
		if !ok {
			return nil, false
		}
		t.rows = append(t.rows, r)
		t.count += r.count
		at = r.place.to
	}
	return t, at == len(data)
}

// headOf answers how many frames of the index follow the head, the greatest key, and the place behind the head.
func headOf(data []byte) (uint64, []byte, int, bool) {
	payload, behind, errno := frame.Read(data, 0)
	if errno != api.OK {
		return 0, nil, 0, false
	}
	n, at, errno := varint.Uint(payload, 0)
	if errno != api.OK {
		return 0, nil, 0, false
	}
	greatest, at, errno := varint.Bytes(payload, at, api.MaxKey)
	return n, greatest, behind, errno == api.OK && at == len(payload)
}

// indexAt answers the index's entries, which stand in so many frames from a place on, and the place behind them.
func indexAt(data []byte, at int, n uint64) ([]api.Entry, int, bool) {
	var index []api.Entry
	for range n {
		payload, next, errno := frame.Read(data, at)
		if errno != api.OK {
			return nil, 0, false
		}
		piece, ok := unpack(payload)
		if !ok {
			return nil, 0, false
		}
		index = append(index, piece...)
		at = next
	}
	return index, at, true
}

// rowAt answers the row that an entry of the index tells, of a block that begins at a place and ends within the file.
func rowAt(e api.Entry, at, end int) (row, bool) {
	count, next, errno := varint.Uint(e.Value, 0)
	if errno != api.OK || count < 1 || count > mostPairs {
		return row{}, false
	}
	size, next, errno := varint.Uint(e.Value, next)
	if errno != api.OK || next < len(e.Value) || size > uint64(end-at) {
		return row{}, false
	}
	first := api.Entry{Key: e.Key, Seq: e.Seq}
	return row{first, int(count), place{at, at + int(size)}}, true
}

// read answers a block's entries, if it is what its row tells.
func (t *Table) read(i int) ([]api.Entry, bool) {
	r := t.rows[i]
	if entries, ok := t.blocks[r.place]; ok {
		return entries, true
	}
	payload, next, errno := frame.Read(t.data, r.place.from)
	if errno != api.OK || next != r.place.to {
		return nil, false
	}
	entries, ok := unpack(payload)
	if !ok || !t.fits(i, entries) {
		return nil, false
	}
	t.blocks[r.place] = entries
	return entries, true
}

// fits tells whether the entries are as many as the block's row tells, begin as it tells, and end ahead of the next block, the last one with the greatest key.
func (t *Table) fits(i int, entries []api.Entry) bool {
	r := t.rows[i]
	if len(entries) != r.count || entry.Order(entries[0], r.first) != 0 {
		return false
	}
	last := entries[len(entries)-1]
	if i+1 < len(t.rows) {
		return entry.Order(last, t.rows[i+1].first) < 0
	}
	return bytes.Equal(last.Key, t.greatest)
}
