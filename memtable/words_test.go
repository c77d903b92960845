package memtable_test

import (
	"math"
	"strings"
	"testing"

	"usance/api"
	"usance/memtable"
)

// What may be is there, at each bound; what may not is refused, and nothing has changed.
func TestEntriesThatMayBe(t *testing.T) {
	key, value := strings.Repeat("k", 200), strings.Repeat("v", 4096)
	there := list{of("b", 2, "x"), dead("b", 1)}
	for _, e := range []api.Entry{
		of("a", 1, ""), of("\x00", 1, "v"), of(key, 1, ""), of("b", 1<<40, ""), of("b", 1<<40-1, value), dead("b", 3),
		{Key: []byte("a"), Seq: 1, Dead: true, Value: []byte{}},
	} {
		m := tableOf(t, []int{1, 2}, there)
		is(t, "Put", m.Put(e), api.OK)
		hasEntries(t, m, append(list{e}, there...), "", "")
		hasLast(t, m, append(list{e}, there...), string(e.Key), e.Seq)
	}
	for _, e := range []api.Entry{
		{}, {Seq: 1}, of("", 1, ""), of(key+"k", 1, ""), of("a", 0, ""), of("a", -1, ""), of("b", math.MinInt, ""),
		of("b", 1<<40+1, ""), of("b", math.MaxInt, ""), of("b", 3, value+"v"),
		{Key: []byte("b"), Seq: 3, Dead: true, Value: []byte("v")},
	} {
		m := tableOf(t, []int{1, 2}, there)
		is(t, "Put("+told(e)[:9]+")", m.Put(e), api.ErrKey)
		holds(t, m, there)
		m = memtable.New(nil)
		is(t, "Put", m.Put(e), api.ErrKey)
		holds(t, m, nil)
	}
}

// Twice: one of this key and number is there, whatever either tells.
func TestTwice(t *testing.T) {
	there := list{of("b", 2, "x"), dead("b", 1), of("a", 2, ""), of("c", 3, "z")}
	for _, heights := range someHeights {
		m := tableOf(t, heights, there)
		for _, e := range there {
			for _, again := range []api.Entry{e, dead(string(e.Key), e.Seq), of(string(e.Key), e.Seq, "other")} {
				is(t, "Put("+told(again)+")", m.Put(again), api.ErrTwice)
				holds(t, m, there)
			}
		}
		more := append(there, of("b", 3, ""), of("bb", 2, ""), of("a", 1, ""))
		for _, e := range more[len(there):] {
			is(t, "Put("+told(e)+")", m.Put(e), api.OK)
		}
		holds(t, m, more)
	}
}

// Of several errors the one that is named first is answered.
func TestErrorsInOrder(t *testing.T) {
	there := list{of("b", 2, "x")}
	twice := of("b", 2, "x")
	mayNot := of("b", 2, strings.Repeat("v", 4097))
	var none *memtable.Table
	for _, c := range []struct {
		m    *memtable.Table
		e    api.Entry
		want api.Errno
	}{
		{none, mayNot, api.ErrNil},
		{none, twice, api.ErrNil},
		{none, of("a", 1, ""), api.ErrNil},
		{tableOf(t, nil, there), mayNot, api.ErrKey},
		{tableOf(t, nil, there), api.Entry{Key: []byte("b"), Seq: 2, Dead: true, Value: []byte("x")}, api.ErrKey},
		{tableOf(t, nil, there), twice, api.ErrTwice},
		{tableOf(t, nil, there), of("a", 1, ""), api.OK},
	} {
		is(t, "Put", c.m.Put(c.e), c.want)
	}
}

func TestNilTable(t *testing.T) {
	var m *memtable.Table
	is(t, "Put", m.Put(of("a", 1, "")), api.ErrNil)
	for _, key := range []string{"", "a"} {
		if e, ok, errno := m.Get([]byte(key), 1); told(e) != told(api.Entry{}) || ok || errno != api.ErrNil {
			t.Errorf("Get(%q): %v, %v, %d", key, e, ok, errno)
		}
		for e := range m.Entries([]byte(key), nil) {
			t.Errorf("Entries of none: %v", e)
		}
	}
	if m.Len() != 0 {
		t.Errorf("Len %d", m.Len())
	}
}

// Keys that no entry has, and keys that none may have, are asked all the same.
func TestAskedOfAnyKey(t *testing.T) {
	l := list{of("a", 1, ""), of(strings.Repeat("k", 200), 2, "x")}
	m := tableOf(t, nil, l)
	long := strings.Repeat("k", 5000)
	for _, key := range []string{"", long, long[:200], long[:199], long[:201]} {
		hasLast(t, m, l, key, math.MaxInt)
		hasEntries(t, m, l, key, "")
		hasEntries(t, m, l, "", key)
		hasEntries(t, m, l, "b", key)
		hasEntries(t, m, l, key, "b")
	}
}
