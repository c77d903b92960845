package memtable_test

import (
	"fmt"
	"slices"
	"testing"

	"usance/api"
	"usance/memtable"
)

// Whoever breaks off, begins again, or goes over them within another going is told what stands there.
func TestGoneOverAgain(t *testing.T) {
	l := someList()
	m := tableOf(t, []int{1, 3}, l)
	entries := m.Entries([]byte("a"), []byte("c"))
	want := l.within("a", "c")
	for stop := range len(want) + 1 {
		var got []string
		for e := range entries {
			if len(got) == stop {
				break
			}
			got = append(got, told(e))
		}
		if !slices.Equal(got, want[:stop]) {
			t.Errorf("up to %d: %q", stop, got)
		}
	}
	var pairs []string
	for x := range entries {
		for y := range entries {
			pairs = append(pairs, told(x)+told(y))
		}
	}
	if len(pairs) != len(want)*len(want) || pairs[1] != want[0]+want[1] || pairs[len(want)] != want[1]+want[0] {
		t.Errorf("one within the other: %q", pairs)
	}
}

// What is put ahead of a going is given, though Entries was asked before.
func TestPutBehindEntries(t *testing.T) {
	m := memtable.New([]int{1, 2})
	entries := m.Entries(nil, []byte("c"))
	var l list
	for _, e := range someList() {
		l = append(l, e)
		is(t, "Put", m.Put(e), api.OK)
		if got := texts(entries); !slices.Equal(got, l.within("", "c")) {
			t.Errorf("behind %d: %q", len(l), got)
		}
	}
}

// While a going goes on, entries are put at all places, many times as many as there are: those that were there are given, each once and in order, beside new ones or not.
func TestPutWhileGoingOn(t *testing.T) {
	for _, heights := range someHeights {
		l := someList()
		m := tableOf(t, heights, l)
		old := l.within("", "")
		var got list
		for e := range m.Entries(nil, nil) {
			got = append(got, e)
			for _, more := range []api.Entry{
				of(string(e.Key), e.Seq+100, "new"),
				of(string(e.Key)+"\x00", 1, "new"),
				of(fmt.Sprintf("\x00%d", len(got)), 1, "new"),
				of(fmt.Sprintf("z%d", len(got)), 1, "new"),
			} {
				if errno := m.Put(more); errno == api.OK {
					l = append(l, more)
				} else {
					is(t, "Put", errno, api.ErrTwice)
				}
			}
		}
		if !slices.Equal(got.within("", ""), tellAll(got)) {
			t.Errorf("not in order: %q", tellAll(got))
		}
		given := slices.DeleteFunc(tellAll(got), func(text string) bool { return !slices.Contains(old, text) })
		if !slices.Equal(given, old) {
			t.Errorf("given: %q", given)
		}
		holds(t, m, l)
	}
}

// Who puts one behind each that is given comes to an end all the same (R1).
func TestGoingEnds(t *testing.T) {
	m := tableOf(t, []int{1, 2}, list{of("a", 1, ""), of("b", 1, "")})
	given := 0
	key := "b"
	for range m.Entries(nil, nil) {
		given++
		key += "b"
		if given > 100 {
			t.Fatal("it goes on and on")
		}
		is(t, "Put", m.Put(of(key, 1, "")), api.OK)
	}
	if m.Len() != 2+given {
		t.Errorf("Len %d behind %d", m.Len(), given)
	}
}
