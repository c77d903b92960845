package merge

import (
	"cmp"
	"math/rand"
	"slices"
	"strings"
	"testing"
)

// gives tells that a heap gives all that was put into it, what is ahead first.
func gives[T cmp.Ordered](t *testing.T, h *heap[T], want []T) {
	t.Helper()
	want = slices.Sorted(slices.Values(want))
	var got []T
	for h.len() > 0 && len(got) <= len(want) {
		got = append(got, h.take())
	}
	if !slices.Equal(got, want) {
		t.Fatalf("given %v, not %v", got, want)
	}
}

// All rows of up to six numbers of four, some alike, in all orders; and a heap that is empty again is as good as new.
func TestShortRows(t *testing.T) {
	h := heap[int]{order: cmp.Compare[int]}
	rows := [][]int{nil}
	for n := 0; n < len(rows); n++ {
		row := rows[n]
		for _, x := range row {
			h.put(x)
		}
		gives(t, &h, row)
		for x := range 4 {
			if len(row) < 6 {
				rows = append(rows, append(slices.Clone(row), x))
			}
		}
	}
}

// What is put between what is taken finds its place; of any type, in any order.
func TestPutAndTake(t *testing.T) {
	r := rand.New(rand.NewSource(12))
	h := heap[string]{order: strings.Compare}
	var there []string
	for range 20000 {
		if len(there) > 0 && r.Intn(100) < 49 {
			slices.Sort(there)
			if got := h.take(); got != there[0] {
				t.Fatalf("taken %q, not %q", got, there[0])
			}
			there = there[1:]
		} else {
			x := string([]byte{byte(r.Intn(9)), byte(r.Intn(9))})
			h.put(x)
			there = append(there, x)
		}
		if h.len() != len(there) {
			t.Fatalf("%d, not %d", h.len(), len(there))
		}
	}
	gives(t, &h, there)
}

// The first at each place is ahead of its children, so that giving takes few steps: no more than the height of the heap, twice.
func TestFewSteps(t *testing.T) {
	const many = 1 << 14
	steps := 0
	h := heap[int]{order: func(x, y int) int {
		steps++
		return cmp.Compare(x, y)
	}}
	for n := range many {
		h.put(many - n)
	}
	for at := 1; at < many; at++ {
		if h.items[at] < h.items[parent(at)] {
			t.Fatalf("place %d is ahead of its parent", at)
		}
	}
	for h.len() > 0 {
		h.take()
	}
	if most := many * 15 * 3; steps > most {
		t.Errorf("%d steps", steps)
	}
}
