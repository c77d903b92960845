package table

import (
	"bytes"

	"usance/api"
	"usance/block"
	"usance/entry"
	"usance/frame"
	"usance/varint"
)

const mostBytes = 1 << 20 // of keys and values; a block that has so many is full, as a frame has an end

// pieces are the entries, cut into blocks of at most so many.
func pieces(entries []api.Entry, most int) [][]api.Entry {
	var list [][]api.Entry
	for len(entries) > 0 {
		n := fill(entries, most)
		list = append(list, entries[:n])
		entries = entries[n:]
	}
	return list
}

// fill answers how many of the entries, from the first on, make a block.
func fill(entries []api.Entry, most int) int {
	n := 0
	for size := 0; n < min(most, len(entries)) && size < mostBytes; n++ {
		size += len(entries[n].Key) + len(entries[n].Value)
	}
	return n
}

// pack answers the frame of a block: its keys, each once and with the number of its versions, and then the versions of them all.
func pack(entries []api.Entry) []byte {
	var pairs []api.Pair
	var versions []byte
	for len(entries) > 0 {
		n := sameKey(entries)
		pairs = append(pairs, api.Pair{Key: entries[0].Key, Value: varint.AppendUint(nil, uint64(n))})
		for _, e := range entries[:n] {
			versions = append(versions, packed(e)...)
		}
		entries = entries[n:]
	}
	// Entries that may stand in a block are never too many nor too long for this.
	keys, _ := block.Build(pairs)
	return framed(append(varint.AppendBytes(nil, keys), versions...))
}

// sameKey answers how many of the entries, from the first on, have its key.
func sameKey(entries []api.Entry) int {
	n := 0
	for n < len(entries) && bytes.Equal(entries[n].Key, entries[0].Key) {
		n++
	}
	return n
}

// packed answers what is told of an entry beside its key.
func packed(e api.Entry) []byte {
	head := uint64(e.Seq) << 1
	if e.Dead {
		head |= 1
	}
	return varint.AppendBytes(varint.AppendUint(nil, head), e.Value)
}

// unpack answers the entries that pack made the payload of.
func unpack(payload []byte) ([]api.Entry, bool) {
	keys, at, errno := varint.Bytes(payload, 0, len(payload))
	if errno != api.OK {
		return nil, false
	}
	pairs, errno := block.Read(keys)
	if errno != api.OK {
		return nil, false
	}
	var entries []api.Entry
	for _, pair := range pairs {
		n, end, errno := varint.Uint(pair.Value, 0)
		if errno != api.OK || end < len(pair.Value) || n == 0 {
			return nil, false
		}
		for range n {
			e, next, errno := versionAt(payload, at)
			if errno != api.OK {
				return nil, false
			}
			e.Key = pair.Key
			entries = append(entries, e)
			at = next
		}
	}
	return entries, at == len(payload) && entry.MayStand(entries)
}

// versionAt answers the entry, but for its key, that stands in b at a place, and the place behind it.
func versionAt(b []byte, at int) (api.Entry, int, api.Errno) {
	head, at, errno := varint.Uint(b, at)
	if errno != api.OK {
		return api.Entry{}, 0, errno
	}
	value, at, errno := varint.Bytes(b, at, api.MaxValue)
	return api.Entry{Seq: int(head >> 1), Dead: head&1 == 1, Value: value}, at, errno
}

// framed answers the frame of a payload, which is never too long for one.
func framed(payload []byte) []byte {
	f, _ := frame.Put(payload)
	return f
}
