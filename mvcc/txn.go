package mvcc

import (
	"bytes"
	"maps"
	"slices"

	"usance/api"
)

// Txn is made by this package alone.
type Txn struct {
	db     *DB // none once it has ended
	view   int
	writes map[string]api.Op // by key
	// What it looked at.
	keys   map[string]struct{}
	ranges map[span]struct{}
}

// span is a range of keys: not below lo and below hi, an empty hi being no bound.
type span struct{ lo, hi string }

func (s span) has(key string) bool {
	return key >= s.lo && (s.hi == "" || key < s.hi)
}

func newTxn(db *DB, view int) *Txn {
	return &Txn{db, view, map[string]api.Op{}, map[string]struct{}{}, map[span]struct{}{}}
}

// Get answers what the transaction wrote for the key or, where it didn't, what is there at its view; or ErrNil, ErrDone, ErrKey, ErrLong, the store's error.
func (t *Txn) Get(key []byte) ([]byte, bool, api.Errno) {
	if errno := t.check(key); errno != api.OK {
		return nil, false, errno
	}
	value, ok, errno := t.read(key)
	if errno != api.OK {
		return nil, false, errno
	}
	t.keys[string(key)] = struct{}{}
	return value, ok, api.OK
}

// Scan answers the pairs whose keys are not below lo and below hi, an empty hi being no bound: those of the view, the transaction's own writes over them; or ErrNil, ErrDone, the store's error.
func (t *Txn) Scan(lo, hi []byte) ([]api.Pair, api.Errno) {
	if errno := t.open(); errno != api.OK {
		return nil, errno
	}
	pairs, errno := t.db.store.Scan(lo, hi, t.view)
	if errno != api.OK {
		return nil, errno
	}
	asked := span{string(lo), string(hi)}
	t.ranges[asked] = struct{}{}
	return t.over(pairs, asked), api.OK
}

// Put writes a value for the key, for the transaction itself to see; or ErrNil, ErrDone, ErrKey, ErrLong.
func (t *Txn) Put(key, value []byte) api.Errno {
	return t.write(api.Op{Key: key, Value: value})
}

// Delete writes that the key is gone, for the transaction itself to see; or ErrNil, ErrDone, ErrKey, ErrLong.
func (t *Txn) Delete(key []byte) api.Errno {
	return t.write(api.Op{Key: key, Dead: true})
}

// Commit ends the transaction and answers the number with which its writes are in the store, or its view if there are none; or ErrNil, ErrDone, ErrConflict, the store's error.
func (t *Txn) Commit() (int, api.Errno) {
	if errno := t.open(); errno != api.OK {
		return 0, errno
	}
	defer t.end()
	if len(t.writes) == 0 {
		return t.view, api.OK
	}
	if t.db.recent.wrote(t.view, t.db.store.Last(), t.lookedAt) {
		return 0, api.ErrConflict
	}
	seq, errno := t.db.store.Write(t.batch())
	if errno != api.OK {
		return 0, errno
	}
	t.db.recent.add(seq, t.writes)
	return seq, api.OK
}

// Abort ends the transaction without a trace; or ErrNil, ErrDone.
func (t *Txn) Abort() api.Errno {
	if errno := t.open(); errno != api.OK {
		return errno
	}
	t.end()
	return api.OK
}

// open answers OK, or ErrNil, or ErrDone.
func (t *Txn) open() api.Errno {
	if t == nil {
		return api.ErrNil
	}
	if t.db == nil {
		return api.ErrDone
	}
	return api.OK
}

// check answers OK if the transaction may be asked for the key, or ErrNil, ErrDone, ErrKey, ErrLong.
func (t *Txn) check(key []byte) api.Errno {
	if errno := t.open(); errno != api.OK {
		return errno
	}
	if len(key) == 0 {
		return api.ErrKey
	}
	if len(key) > api.MaxKey {
		return api.ErrLong
	}
	return api.OK
}

// end lets go of all that the transaction has, as it may be held on to for long by whoever began it.
func (t *Txn) end() {
	t.db.leave(t.view)
	*t = Txn{}
}

// read answers what the transaction sees for the key.
func (t *Txn) read(key []byte) ([]byte, bool, api.Errno) {
	op, ok := t.writes[string(key)]
	if !ok {
		return t.db.store.Get(key, t.view)
	}
	return bytes.Clone(op.Value), !op.Dead, api.OK
}

// over lays what the transaction wrote in a range over the pairs that its view has there.
func (t *Txn) over(pairs []api.Pair, within span) []api.Pair {
	pairs = slices.DeleteFunc(pairs, func(p api.Pair) bool {
		_, ok := t.writes[string(p.Key)]
		return ok
	})
	for key, op := range t.writes {
		if !op.Dead && within.has(key) {
			pairs = append(pairs, api.Pair{Key: []byte(key), Value: bytes.Clone(op.Value)})
		}
	}
	slices.SortFunc(pairs, func(x, y api.Pair) int { return bytes.Compare(x.Key, y.Key) })
	return pairs
}

// write takes what is written for a key in the place of what the transaction wrote for it ahead of that.
func (t *Txn) write(op api.Op) api.Errno {
	if errno := t.check(op.Key); errno != api.OK {
		return errno
	}
	if len(op.Value) > api.MaxValue {
		return api.ErrLong
	}
	if _, ok := t.writes[string(op.Key)]; !ok && len(t.writes) == api.MaxBatch {
		return api.ErrLong
	}
	op.Key, op.Value = bytes.Clone(op.Key), bytes.Clone(op.Value)
	t.writes[string(op.Key)] = op
	return api.OK
}

// lookedAt tells whether the transaction looked at the key, or at a range in which it lies.
func (t *Txn) lookedAt(key string) bool {
	if _, ok := t.keys[key]; ok {
		return true
	}
	for looked := range t.ranges {
		if looked.has(key) {
			return true
		}
	}
	return false
}

// batch answers what the transaction wrote, by rising keys.
func (t *Txn) batch() []api.Op {
	return slices.SortedFunc(maps.Values(t.writes), func(x, y api.Op) int { return bytes.Compare(x.Key, y.Key) })
}
