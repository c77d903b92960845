package compact_test

import (
	"math"
	"math/rand"
	"slices"
	"testing"

	"usance/api"
	"usance/compact"
)

// liesBottom is what P14.3's words say.
func liesBottom(v api.Version, ids []int, level int) bool {
	var made []api.Table
	for _, x := range v.Tables {
		if slices.Contains(ids, x.ID) {
			made = append(made, x)
		}
	}
	for _, x := range v.Tables {
		if x.Level > level && meets(x, made) {
			return false
		}
	}
	return true
}

// Of all short versions Bottom is what the words say, of any IDs and levels.
func TestBottomOfShortVersions(t *testing.T) {
	said := map[bool]int{}
	for _, levels := range [][]int{{0, 1}, {2, 3}, {1, 4}} {
		shortVersions(3, levels, func(v api.Version) {
			for _, ids := range [][]int{nil, {1}, {2}, {2, 1, 2}, {3}, {0, 3, 1}} {
				for level := -1; level <= 4; level++ {
					want := liesBottom(v, ids, level)
					isBottom(t, v, ids, level, want)
					said[want]++
				}
			}
		})
	}
	if said[true] < 1000 || said[false] < 1000 {
		t.Errorf("said: %v", said)
	}
}

func TestBottomOfLongVersions(t *testing.T) {
	r := rand.New(rand.NewSource(15))
	for range 20000 {
		v := someVersion(r, r.Intn(12))
		var ids []int
		for range r.Intn(5) {
			ids = append(ids, r.Intn(30)-2)
		}
		for level := -1; level <= 5; level++ {
			isBottom(t, v, ids, level, liesBottom(v, ids, level))
		}
	}
}

// Told out: the levels below the told one are asked, those at it and above it aren't, and of each the tables that overlap the range of all that are named.
func TestBottomToldOut(t *testing.T) {
	v := version(table(1, 0, "c", "d"), table(2, 0, "f", "g"), table(3, 1, "a", "c"), table(4, 2, "e", "e"), table(5, 3, "h", "i"), table(6, 3, "g", "g"), table(7, 2, "a", "b"))
	for _, c := range []struct {
		ids   []int
		level int
		want  bool
	}{
		{[]int{1, 2}, 1, false},    // 4, which lies between them
		{[]int{1}, 1, true},        // 4 lies behind it, 7 ahead
		{[]int{1, 3}, 1, false},    // 7
		{[]int{1}, 0, false},       // 3, which ends where it begins
		{[]int{2}, 2, false},       // 6, which begins where it ends
		{[]int{2}, 3, true},        // nothing lies below
		{[]int{1, 2}, 2, false},    // 6
		{[]int{4, 7}, 2, true},     // those at the level are themselves
		{[]int{4, 7}, 1, false},    // a level above, they aren't
		{[]int{5}, 2, false},       // nor is this one
		{[]int{5}, 3, true},        // at its own level it is
		{nil, 0, true},             // no table
		{[]int{9, 0, -1}, 0, true}, // none with such an ID
		{[]int{9, 1, 1, 9}, 1, true},
		{[]int{1, 2, 3, 4, 5, 6, 7}, 3, true},
		{[]int{1, 2, 3, 4, 5, 6, 7}, 2, false},
		{[]int{1, 2, 3, 4, 5, 6, 7}, math.MaxInt, true},
		{[]int{1, 2}, math.MinInt, false},
		{nil, math.MinInt, true},
	} {
		isBottom(t, v, c.ids, c.level, c.want)
	}
}

// Where it ends and where it begins, to the key.
func TestBottomToTheKey(t *testing.T) {
	for below, want := range map[[2]string]bool{
		{"a", "b"}: true, {"a", "b\xff\xff"}: true, {"a", "c"}: false, {"c", "c"}: false, {"c\x00", "c\x00"}: false,
		{"d", "e"}: false, {"f", "z"}: false, {"f\x00", "z"}: true, {"\x80", "\xff"}: true, {"\x00", "\x01"}: true, {"a", "z"}: false, {"", "z"}: false, {"", ""}: true,
	} {
		v := version(table(1, 1, "c", "d"), table(9, 3, below[0], below[1]), table(2, 2, "e", "f"))
		isBottom(t, v, []int{1, 2}, 2, want)
		isBottom(t, v, []int{2, 1}, 2, want)
		isBottom(t, v, []int{1, 2}, 3, true)
	}
}

func TestBottomOfNothing(t *testing.T) {
	for _, level := range []int{math.MinInt, -1, 0, 3, 4, math.MaxInt} {
		isBottom(t, api.Version{}, nil, level, true)
		isBottom(t, api.Version{}, []int{0, 1}, level, true)
		isBottom(t, version(table(1, 3, "a", "z")), []int{}, level, true)
	}
}

// What Pick answers may be handed to it: of what goes to level 3 the answer is true.
func TestBottomOfPicked(t *testing.T) {
	r := rand.New(rand.NewSource(16))
	seen := map[int]int{}
	for range 20000 {
		v := someVersion(r, r.Intn(20))
		v.Tables = slices.DeleteFunc(v.Tables, func(x api.Table) bool { return x.Level > 3 })
		ids, to, ok := compact.Pick(v, 2+r.Intn(3))
		if !ok {
			continue
		}
		if got := compact.Bottom(v, ids, to); to == 3 && !got {
			t.Fatalf("of %v at level 3 it is none", v.Tables)
		}
		seen[to]++
	}
	if len(seen) != 3 {
		t.Errorf("seen: %v", seen)
	}
}
