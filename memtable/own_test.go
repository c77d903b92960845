package memtable_test

import (
	"slices"
	"testing"

	"usance/api"
	"usance/memtable"
)

// spoil writes over the whole list, its spare room too.
func spoil(b []byte) {
	b = b[:cap(b)]
	for i := range b {
		b[i] = 'x'
	}
}

func someList() list {
	return list{of("b", 3, "one"), dead("a", 2), of("a", 1, "two"), dead("b", 1), of("c", 2, ""), of("a", 3, "three")}
}

// What is handed in stays as it is, spare room included, and isn't kept (R4).
func TestEntriesAreNotKept(t *testing.T) {
	for _, heights := range someHeights {
		m := memtable.New(heights)
		for _, e := range someList() {
			all := []byte(string(e.Key) + string(e.Value) + "spare")
			kept := string(all)
			n := len(e.Key)
			given := api.Entry{Key: all[:n], Seq: e.Seq, Dead: e.Dead, Value: all[n : n+len(e.Value)]}
			is(t, "Put", m.Put(given), api.OK)
			is(t, "Put again", m.Put(given), api.ErrTwice)
			if string(all) != kept {
				t.Fatalf("what was handed in became %q", all)
			}
			spoil(all)
		}
		holds(t, m, someList())
	}
}

func TestHeightsAreNotKept(t *testing.T) {
	whole := []int{3, 1, 99, -5, 7, 8}
	m := memtable.New(whole[:4])
	for i, e := range someList() {
		is(t, "Put", m.Put(e), api.OK)
		if !slices.Equal(whole, []int{3, 1, 99, -5, 7, 8}) {
			t.Fatalf("what was handed in became %v", whole)
		}
		if i == 2 {
			break
		}
	}
	for i := range whole {
		whole[i] = 12 - i
	}
	for _, e := range someList()[3:] {
		is(t, "Put", m.Put(e), api.OK)
	}
	holds(t, m, someList())
}

// Nor is what is asked for: a key or bounds that are spoilt behind the call don't count.
func TestAskedIsNotKept(t *testing.T) {
	l := someList()
	m := tableOf(t, []int{1, 3, 2}, l)
	key, lo, hi := []byte("b  ")[:1], []byte("az")[:1], []byte("cz")[:1]
	m.Get(key, 3)
	entries := m.Entries(lo, hi)
	want := l.within("a", "c")
	if got := texts(entries); !slices.Equal(got, want) || string(key[:3]) != "b  " || string(lo[:2]) != "az" || string(hi[:2]) != "cz" {
		t.Errorf("Entries: %q; what was handed in became %q, %q, %q", got, key[:3], lo[:2], hi[:2])
	}
	spoil(key)
	spoil(lo)
	spoil(hi)
	for range 2 {
		if got := texts(entries); !slices.Equal(got, want) {
			t.Errorf("Entries: %q", got)
		}
	}
	holds(t, m, l)
}

// What is answered is nobody else's: it shares no memory with the table, an earlier answer, or its own other list (R4).
func TestAnswersAreNewMemory(t *testing.T) {
	l := someList()
	for _, heights := range someHeights {
		m := tableOf(t, heights, l)
		var answers []api.Entry
		for range 2 {
			for e := range m.Entries(nil, nil) {
				answers = append(answers, e)
			}
			for _, e := range l {
				got, _, _ := m.Get(e.Key, e.Seq)
				answers = append(answers, got)
			}
		}
		for i, e := range answers {
			want := told(e)
			spoil(e.Key[len(e.Key):])
			spoil(e.Value[len(e.Value):])
			if told(e) != want {
				t.Fatalf("with its spare room answer %d became %s", i, told(e))
			}
			value, rest := string(e.Value), tellAll(answers[i+1:])
			spoil(e.Key)
			if string(e.Value) != value {
				t.Fatalf("with its key the value of answer %d became %q", i, e.Value)
			}
			spoil(e.Value)
			if !slices.Equal(tellAll(answers[i+1:]), rest) {
				t.Fatalf("with answer %d those behind it became %q", i, tellAll(answers[i+1:]))
			}
		}
		holds(t, m, l)
	}
}

func tellAll(entries []api.Entry) []string { return texts(slices.Values(entries)) }

// An entry that is spoilt while it goes on has no bearing on those that follow.
func TestSpoiltWhileGoingOn(t *testing.T) {
	l := someList()
	m := tableOf(t, nil, l)
	var got []string
	for e := range m.Entries(nil, nil) {
		got = append(got, told(e))
		spoil(e.Key)
		spoil(e.Value)
	}
	if !slices.Equal(got, l.within("", "")) {
		t.Errorf("Entries: %q", got)
	}
	holds(t, m, l)
}

// Tables share nothing, though they got the same heights and entries.
func TestTablesAreApart(t *testing.T) {
	l := someList()
	heights := []int{2, 1}
	x, y := memtable.New(heights), memtable.New(heights)
	for i, e := range l {
		is(t, "Put", x.Put(e), api.OK)
		if i%2 == 0 {
			is(t, "Put", y.Put(e), api.OK)
		}
	}
	holds(t, x, l)
	holds(t, y, list{l[0], l[2], l[4]})
	holds(t, memtable.New(heights), nil)
}
