package entry_test

import (
	"cmp"
	"math"
	"strings"
	"testing"

	"usance/api"
	"usance/entry"
)

func of(key string, seq int, dead bool, value string) api.Entry {
	return api.Entry{Key: []byte(key), Seq: seq, Dead: dead, Value: []byte(value)}
}

// What may be and what may not, at each bound; and so in a list, wherever it stands.
func TestMayBe(t *testing.T) {
	key, value := strings.Repeat("k", 200), strings.Repeat("v", 4096)
	for _, c := range []struct {
		e    api.Entry
		want bool
	}{
		{of("b", 1, false, ""), true},
		{of("\x00\x00", 1, false, ""), true},
		{of(key, 1, false, value), true},
		{of("b", 1<<40, false, "v"), true},
		{of("b", 1, true, ""), true},
		{api.Entry{Key: []byte("b"), Seq: 1, Dead: true}, true},
		{of(key, 1<<40, true, ""), true},
		{of("", 1, false, ""), false},
		{api.Entry{Seq: 1}, false},
		{of(key+"k", 1, false, ""), false},
		{of("b", 0, false, ""), false},
		{of("b", -1, false, ""), false},
		{of("b", math.MinInt, false, ""), false},
		{of("b", 1<<40+1, false, ""), false},
		{of("b", math.MaxInt, false, ""), false},
		{of("b", 1, false, value+"v"), false},
		{of("b", 1, true, "v"), false},
	} {
		if got := entry.MayBe(c.e); got != c.want {
			t.Errorf("MayBe(%.99v): %v", c.e, got)
		}
		first, last := of("\x00", 1, false, ""), of("z", 1, false, "")
		for _, l := range [][]api.Entry{{c.e}, {first, c.e}, {c.e, last}, {first, c.e, last}} {
			if got := entry.MayStand(l); got != c.want {
				t.Errorf("MayStand of %d with %.99v: %v", len(l), c.e, got)
			}
		}
	}
}

// Keys rise byte by byte, and of one key the numbers fall: each of these stands ahead of all behind it.
func TestOrder(t *testing.T) {
	l := []api.Entry{
		{Seq: math.MaxInt}, {}, {Seq: math.MinInt},
		of("\x00", 9, false, ""),
		of("a", 1<<40, false, ""), of("a", 2, false, ""), of("a", 1, true, ""),
		of("a\x00", 3, false, ""), of("aa", 3, false, ""), of("b", 1, false, ""),
		of("\x7f", 1, false, ""), of("\x80", 1, false, ""), of("\xff", 1, false, ""), of("\xff\xff", 2, false, ""),
	}
	for i, x := range l {
		for k, y := range l {
			if got := entry.Order(x, y); cmp.Compare(got, 0) != cmp.Compare(i, k) {
				t.Errorf("Order(%v, %v): %d", x, y, got)
			}
			if i < 3 || k < 3 {
				continue
			}
			if got := entry.MayStand([]api.Entry{x, y}); got != (i < k) {
				t.Errorf("MayStand(%v, %v): %v", x, y, got)
			}
		}
	}
	if entry.Order(of("a", 1, true, ""), of("a", 1, false, "v")) != 0 {
		t.Error("what is told of a version moves its place")
	}
	if !entry.MayStand(nil) || !entry.MayStand(l[3:]) || entry.MayStand(append([]api.Entry{l[4]}, l[3:]...)) {
		t.Error("lists of none and of many")
	}
}

func TestBelow(t *testing.T) {
	for _, c := range []struct {
		key, hi string
		want    bool
	}{{"a", "", true}, {"\xff", "", true}, {"", "", true}, {"a", "b", true}, {"a", "aa", true}, {"\x7f", "\x80", true}, {"a", "a", false}, {"b", "a", false}, {"aa", "a", false}} {
		if got := entry.Below([]byte(c.key), []byte(c.hi)); got != c.want {
			t.Errorf("Below(%q, %q): %v", c.key, c.hi, got)
		}
	}
	if !entry.Below(nil, nil) {
		t.Error("nil is a bound")
	}
}

// A clone shares no memory with the entry, in spare room either, nor its key with its value.
func TestClone(t *testing.T) {
	all := []byte("key value spare")
	e := api.Entry{Key: all[:3], Seq: 7, Value: all[4:9]}
	c := entry.Clone(e)
	for i := range all {
		all[i] = 'x'
	}
	clear(c.Key[len(c.Key):cap(c.Key)])
	clear(c.Value[len(c.Value):cap(c.Value)])
	if string(c.Key) != "key" || string(c.Value) != "value" || c.Seq != 7 || c.Dead || string(all) != "xxxxxxxxxxxxxxx" {
		t.Errorf("the clone %q, %q, %d; the entry %q", c.Key, c.Value, c.Seq, all)
	}
	if c = entry.Clone(of("k", 1, true, "")); string(c.Key) != "k" || len(c.Value) > 0 || c.Seq != 1 || !c.Dead {
		t.Errorf("the clone %v", c)
	}
}
