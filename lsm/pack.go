package lsm

import (
	"usance/api"
	"usance/entry"
	"usance/varint"
)

// pack answers the record of a batch: its number, and one behind the other what is written.
func pack(seq int, ops []api.Op) []byte {
	record := varint.AppendUint(nil, uint64(seq))
	for _, op := range ops {
		record = append(record, packed(op)...)
	}
	return record
}

// packed answers the bytes of one: whether the key is gone (1) or not (0), the key, the value.
func packed(op api.Op) []byte {
	dead := uint64(0)
	if op.Dead {
		dead = 1
	}
	return varint.AppendBytes(varint.AppendBytes(varint.AppendUint(nil, dead), op.Key), op.Value)
}

// unpack answers the number and the batch that pack made the record of, if it is one that may be written.
func unpack(record []byte) (int, []api.Op, bool) {
	seq, at, errno := varint.Uint(record, 0)
	if errno != api.OK || seq < 1 || seq > entry.MostSeq {
		return 0, nil, false
	}
	var ops []api.Op
	for at < len(record) {
		op, next, ok := opAt(record, at)
		if !ok {
			return 0, nil, false
		}
		ops = append(ops, op)
		at = next
	}
	return int(seq), ops, check(ops) == api.OK
}

// opAt answers what stands in a record at a place, and the place behind it.
func opAt(record []byte, at int) (api.Op, int, bool) {
	dead, at, errno := varint.Uint(record, at)
	if errno != api.OK || dead > 1 {
		return api.Op{}, 0, false
	}
	key, at, errno := varint.Bytes(record, at, api.MaxKey)
	if errno != api.OK {
		return api.Op{}, 0, false
	}
	value, at, errno := varint.Bytes(record, at, api.MaxValue)
	return api.Op{Key: key, Dead: dead == 1, Value: value}, at, errno == api.OK
}
