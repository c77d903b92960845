package memtable

import (
	"fmt"
	"math"
	"math/rand"
	"slices"
	"testing"

	"usance/api"
)

// heightOf is the height that the words of P11.1 give to the n-th entry.
func heightOf(heights []int, n int) int {
	if len(heights) == 0 {
		return 1
	}
	switch height := heights[n%len(heights)]; {
	case height < 1:
		return 1
	case height > 12:
		return 12
	default:
		return height
	}
}

// hasTowers tells that each height's nodes are those that were put so high, in the order of the entries.
func hasTowers(t *testing.T, m *Table, heights []int, names []string) {
	t.Helper()
	for height := range api.MaxHeight {
		var want, got []string
		for n, name := range names {
			if heightOf(heights, n) > height {
				want = append(want, name)
			}
		}
		slices.Sort(want)
		for at := m.nodes[head].tower[height]; at != none && len(got) <= len(names); at = m.nodes[at].tower[height] {
			got = append(got, name(m.nodes[at].entry))
		}
		if !slices.Equal(got, want) {
			t.Fatalf("heights %v: at height %d %q, not %q", heights, height, got, want)
		}
	}
}

// name is a text of an entry; names of one length are ordered as the entries are.
func name(e api.Entry) string { return fmt.Sprintf("%s %d", e.Key, 9-e.Seq) }

// The n-th entry that is put gets the n-th height, gone round and held within 1 to 12; what is refused takes none, and who handed the heights in may write over them.
func TestTowers(t *testing.T) {
	r := rand.New(rand.NewSource(11))
	for _, heights := range [][]int{
		nil, {}, {0}, {1}, {2}, {12}, {13}, {-1}, {math.MinInt}, {math.MaxInt},
		{1, 2, 1, 3}, {3, 1, 99, -5}, {12, 11, 10, 9, 8, 7, 6, 5, 4, 3, 2, 1}, {1, 1, 1, 1, 6}, {0, 13},
	} {
		given := slices.Clone(heights)
		m := New(given)
		for i := range given {
			given[i] = 5
		}
		var names []string
		for range 60 {
			e := api.Entry{Key: []byte{"abcd"[r.Intn(4)]}, Seq: 1 + r.Intn(8)}
			errno := m.Put(e)
			if again := slices.Contains(names, name(e)); again != (errno == api.ErrTwice) || !again && errno != api.OK {
				t.Fatalf("Put(%v): %d", e, errno)
			}
			if errno == api.OK {
				names = append(names, name(e))
			}
			if errno := m.Put(api.Entry{Key: e.Key}); errno != api.ErrKey {
				t.Fatalf("Put of number 0: %d", errno)
			}
			hasTowers(t, m, heights, names)
		}
	}
}
