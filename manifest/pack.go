package manifest

import (
	"math"

	"usance/api"
	"usance/frame"
	"usance/varint"
)

// pack answers the bytes of the file that holds the version: a frame of its numbers and how many tables it has, and one a table.
func pack(v api.Version) []byte {
	file := framed(numbers(v.Log, v.Seq, v.Next, len(v.Tables)))
	for _, t := range v.Tables {
		told := numbers(t.ID, t.Level, t.Count)
		told = varint.AppendBytes(varint.AppendBytes(told, t.Lo), t.Hi)
		file = append(file, framed(told)...)
	}
	return file
}

// unpack answers the version that pack made the bytes of, if it is one that edits can have made.
func unpack(b []byte) (api.Version, bool) {
	payloads, _, errno := frame.All(b)
	if errno != api.OK || len(payloads) == 0 {
		return api.Version{}, false
	}
	r := &reader{b: payloads[0]}
	v := api.Version{Log: r.number(), Seq: r.number(), Next: r.number()}
	if count := r.number(); !r.isDone() || count != len(payloads)-1 {
		return api.Version{}, false
	}
	least := 1
	for _, payload := range payloads[1:] {
		t, ok := unpackTable(payload)
		if !ok || t.ID < least {
			return api.Version{}, false
		}
		v.Tables = append(v.Tables, t)
		least = t.ID + 1
	}
	return v, least <= v.Next && v.Next <= lastID+1
}

func unpackTable(payload []byte) (api.Table, bool) {
	r := &reader{b: payload}
	t := api.Table{ID: r.number(), Level: r.number(), Count: r.number(), Lo: r.bytes(), Hi: r.bytes()}
	return t, r.isDone() && isInRange(t) && hasKeys(t)
}

// packName answers the bytes of current, which names a file.
func packName(name string) []byte {
	return framed([]byte(name))
}

// unpackName answers the name that packName made the bytes of.
func unpackName(b []byte) (string, bool) {
	payloads, _, errno := frame.All(b)
	if errno != api.OK || len(payloads) != 1 {
		return "", false
	}
	name := string(payloads[0])
	return name, isFile(name)
}

// numbers are the forms of numbers from 0 on, one behind the other.
func numbers(list ...int) []byte {
	var b []byte
	for _, n := range list {
		b = varint.AppendUint(b, uint64(n))
	}
	return b
}

// framed answers the frame of a payload, which is never too long for one.
func framed(payload []byte) []byte {
	f, _ := frame.Put(payload)
	return f
}

// reader reads one thing behind the other; once it is broken, what it answers says nothing.
type reader struct {
	b      []byte
	at     int
	broken bool
}

func (r *reader) number() int {
	v, next, errno := varint.Uint(r.b, r.at)
	r.step(next, errno)
	if v > math.MaxInt {
		r.broken = true
	}
	return int(v)
}

func (r *reader) bytes() []byte {
	x, next, errno := varint.Bytes(r.b, r.at, api.MaxKey)
	r.step(next, errno)
	return x
}

func (r *reader) step(next int, errno api.Errno) {
	if errno != api.OK {
		r.broken = true
		return
	}
	r.at = next
}

// isDone tells whether all could be read, up to the end.
func (r *reader) isDone() bool {
	return !r.broken && r.at == len(r.b)
}
