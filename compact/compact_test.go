package compact_test

import (
	"fmt"
	"math"
	"slices"
	"testing"

	"usance/api"
	"usance/compact"
)

func is(t *testing.T, what string, got, want api.Errno) {
	t.Helper()
	if got != want {
		t.Fatalf("%s: %d, not %d", what, got, want)
	}
}

type list = []api.Entry

func of(key string, seq int, value string) api.Entry {
	return api.Entry{Key: []byte(key), Seq: seq, Value: []byte(value)}
}

func dead(key string, seq int) api.Entry {
	return api.Entry{Key: []byte(key), Seq: seq, Dead: true}
}

// table is one of two entries at most, as far as anybody asks.
func table(id, level int, lo, hi string) api.Table {
	return api.Table{ID: id, Level: level, Count: 2, Lo: []byte(lo), Hi: []byte(hi)}
}

func version(tables ...api.Table) api.Version { return api.Version{Tables: tables} }

func picks(t *testing.T, v api.Version, fan int, want []int, to int) {
	t.Helper()
	ids, level, ok := compact.Pick(v, fan)
	if !slices.Equal(ids, want) || level != to || ok != (to > 0) {
		t.Fatalf("Pick(%.500v, %d): %v %d %v, not %v %d", v.Tables, fan, ids, level, ok, want, to)
	}
}

func isBottom(t *testing.T, v api.Version, ids []int, level int, want bool) {
	t.Helper()
	if got := compact.Bottom(v, ids, level); got != want {
		t.Fatalf("Bottom(%.500v, %.100v, %d): %v", v.Tables, ids, level, got)
	}
}

func good() api.Options { return api.Options{Mem: 1, Size: 1, Block: 1, Fan: 2} }

// Each option at its bounds and beyond them, the others being as they may be (P14.1).
func TestCheckAtTheBounds(t *testing.T) {
	for name, c := range map[string]struct {
		set         func(o *api.Options, n int)
		least, most int
	}{
		"Mem":   {func(o *api.Options, n int) { o.Mem = n }, 1, 4096},
		"Size":  {func(o *api.Options, n int) { o.Size = n }, 1, 4096},
		"Block": {func(o *api.Options, n int) { o.Block = n }, 1, 1024},
		"Fan":   {func(o *api.Options, n int) { o.Fan = n }, 2, 16},
	} {
		for n, want := range map[int]api.Errno{
			c.least: api.OK, c.least + 1: api.OK, c.most - 1: api.OK, c.most: api.OK,
			c.least - 1: api.ErrRange, c.most + 1: api.ErrRange, -1: api.ErrRange, -c.most: api.ErrRange,
			math.MinInt: api.ErrRange, math.MaxInt: api.ErrRange, 1<<32 + c.least: api.ErrRange,
		} {
			o := good()
			c.set(&o, n)
			is(t, fmt.Sprintf("Check with %s %d", name, n), compact.Check(o), want)
		}
	}
}

// Of heights it is asked how many there are, and nothing else.
func TestCheckOfHeights(t *testing.T) {
	for n, want := range map[int]api.Errno{0: api.OK, 1: api.OK, 63: api.OK, 64: api.OK, 65: api.ErrRange, 1000: api.ErrRange} {
		for _, height := range []int{0, 1, 12, 13, -1, math.MinInt, math.MaxInt} {
			o := good()
			o.Heights = slices.Repeat([]int{height}, n)
			is(t, fmt.Sprintf("Check with %d heights of %d", n, height), compact.Check(o), want)
		}
	}
	o := good()
	o.Heights = make([]int, 64, 100)
	is(t, "Check with spare room", compact.Check(o), api.OK)
}

func TestCheckOfAll(t *testing.T) {
	is(t, "the greatest", compact.Check(api.Options{Mem: 4096, Size: 4096, Block: 1024, Fan: 16, Heights: make([]int, 64)}), api.OK)
	is(t, "none", compact.Check(api.Options{}), api.ErrRange)
	is(t, "one more each", compact.Check(api.Options{Mem: 4097, Size: 4097, Block: 1025, Fan: 17, Heights: make([]int, 65)}), api.ErrRange)
	is(t, "heights alone", compact.Check(api.Options{Heights: []int{1}}), api.ErrRange)
}

// The chapter's example.
func TestExample(t *testing.T) {
	l := list{of("a", 3, ""), of("a", 2, ""), of("b", 1, "")}
	runs(t, []list{l}, 3, false, 1, []list{l[:1], l[2:]})
	runs(t, []list{l}, 0, false, 1, []list{l[:2], l[2:]})
}
