package compact_test

import (
	"cmp"
	"math"
	"math/rand"
	"slices"
	"strings"
	"testing"

	"usance/api"
	"usance/compact"
)

// at are the version's tables of a level.
func at(v api.Version, level int) []api.Table {
	return slices.DeleteFunc(slices.Clone(v.Tables), func(x api.Table) bool { return x.Level != level })
}

// meets tells of a table whether some of these begins not above its end, and some of them ends not below its beginning: then it overlaps the range of all.
func meets(x api.Table, tables []api.Table) bool {
	begins, ends := false, false
	for _, y := range tables {
		begins = begins || string(y.Lo) <= string(x.Hi)
		ends = ends || string(y.Hi) >= string(x.Lo)
	}
	return begins && ends
}

// toPick is what P14.2's words say.
func toPick(v api.Version, fan int) ([]int, int) {
	for level := 0; level < 3; level++ {
		from := at(v, level)
		if len(from) < fan || len(from) < 2 {
			continue
		}
		if level > 0 {
			slices.SortStableFunc(from, func(x, y api.Table) int { return cmp.Compare(x.ID, y.ID) })
			from = from[:1]
		}
		var ids []int
		for _, x := range v.Tables {
			if x.Level == level+1 && meets(x, from) {
				ids = append(ids, x.ID)
			}
		}
		for _, x := range from {
			ids = append(ids, x.ID)
		}
		slices.Sort(ids)
		return ids, level + 1
	}
	return nil, 0
}

var someFans = []int{math.MinInt, -1, 0, 1, 2, 3, 4, 16, math.MaxInt}

// shortVersions goes over all versions of up to so many tables of few levels, IDs and ranges, also of those that no edit makes.
func shortVersions(most int, levels []int, do func(v api.Version)) {
	var kinds []api.Table
	for _, level := range levels {
		for _, id := range []int{1, 2} {
			for _, r := range []string{"a a", "a c", "b b", "c c", "c a", " ", " b"} {
				lo, hi, _ := strings.Cut(r, " ")
				kinds = append(kinds, table(id, level, lo, hi))
			}
		}
	}
	var grow func(tables []api.Table)
	grow = func(tables []api.Table) {
		do(version(tables...))
		if len(tables) == most {
			return
		}
		for _, x := range kinds {
			grow(append(slices.Clone(tables), x))
		}
	}
	grow(nil)
}

// Of all short versions Pick is what the words say.
func TestPickOfShortVersions(t *testing.T) {
	done := map[int]int{}
	for _, levels := range [][]int{{0, 1}, {1, 2}, {2, 3}, {3, 4}, {-1, 0}, {0, 3}} {
		shortVersions(3, levels, func(v api.Version) {
			for _, fan := range someFans {
				ids, to := toPick(v, fan)
				picks(t, v, fan, ids, to)
				done[to]++
			}
		})
	}
	if len(done) != 4 {
		t.Errorf("done: %v", done)
	}
}

// someVersion is one of so many tables, on any level, in any order, with IDs of which some may be equal.
func someVersion(r *rand.Rand, many int) api.Version {
	key := func() string {
		k := ""
		for range 1 + r.Intn(3) {
			k += string("\x00ab\xff"[r.Intn(4)])
		}
		return k
	}
	v := api.Version{Log: r.Intn(9), Seq: r.Intn(9), Next: r.Intn(9)}
	for range many {
		lo, hi := key(), key()
		if r.Intn(8) > 0 {
			lo, hi = min(lo, hi), max(lo, hi)
		}
		v.Tables = append(v.Tables, table(r.Intn(3*many)-1, r.Intn(5), lo, hi))
	}
	return v
}

func TestPickOfLongVersions(t *testing.T) {
	r := rand.New(rand.NewSource(14))
	for range 20000 {
		v := someVersion(r, r.Intn(30))
		for fan := 1; fan < 12; fan++ {
			ids, to := toPick(v, fan)
			picks(t, v, fan, ids, to)
		}
	}
}

// The fan is how many tables a level has, not one more, and below 2 it is 2.
func TestFan(t *testing.T) {
	for level := range 3 {
		var v api.Version
		for n := 1; n <= 20; n++ {
			v.Tables = append(v.Tables, table(n, level, "k", "k"))
			for fan := -2; fan <= 21; fan++ {
				_, to, ok := compact.Pick(v, fan)
				if want := n >= fan && n >= 2; ok != want || ok && to != level+1 {
					t.Fatalf("%d tables at level %d with fan %d: %d %v", n, level, fan, to, ok)
				}
			}
		}
	}
}

// The first level is taken, though one below it has more tables; and the levels from 0 to 2 alone, however many stand elsewhere.
func TestFirstLevel(t *testing.T) {
	var tables []api.Table
	for n := range 9 {
		tables = append(tables, table(100+n, 3, "a", "z"), table(200+n, -1, "a", "z"), table(300+n, 4, "a", "z"))
	}
	picks(t, version(tables...), 2, nil, 0)
	picks(t, version(append(tables[:2:2], table(1, 2, "b", "b"))...), 2, nil, 0)
	for n := range 5 {
		tables = append(tables, table(50+n, 2, "k", "k"))
	}
	picks(t, version(tables...), 2, []int{50, 100, 101, 102, 103, 104, 105, 106, 107, 108}, 3)
	tables = append(tables, table(12, 1, "k", "k"), table(13, 1, "l", "l"))
	picks(t, version(tables...), 2, []int{12, 50, 51, 52, 53, 54}, 2)
	picks(t, version(tables...), 3, []int{50, 100, 101, 102, 103, 104, 105, 106, 107, 108}, 3)
	tables = append(tables, table(7, 0, "a", "a"), table(6, 0, "z", "z"))
	picks(t, version(tables...), 2, []int{6, 7, 12, 13}, 1)
	picks(t, version(tables...), 5, []int{50, 100, 101, 102, 103, 104, 105, 106, 107, 108}, 3)
	picks(t, version(tables...), 6, nil, 0)
}

// A table overlaps where it ends on the range's first key or begins on its last one, not where it stands beside it; what the range skips counts, too.
func TestOverlap(t *testing.T) {
	low := []api.Table{
		table(11, 1, "a", "b"), table(12, 1, "a", "c"), table(13, 1, "c\x00", "c\x01"), table(14, 1, "d", "d"), table(15, 1, "e", "f"),
		table(16, 1, "f\x00", "g"), table(17, 1, "a", "z"), table(18, 1, "f", "z"), table(19, 1, "b\xff", "b\xff\xff"), table(20, 1, "\x00", "\x01"), table(21, 1, "\x80", "\xff"),
	}
	picks(t, version(append(low, table(1, 0, "c", "c"), table(2, 0, "f", "f"))...), 2, []int{1, 2, 12, 13, 14, 15, 17, 18}, 1)
	picks(t, version(append(low, table(1, 0, "e", "f"), table(2, 0, "c", "c"), table(3, 0, "d", "d"))...), 2, []int{1, 2, 3, 12, 13, 14, 15, 17, 18}, 1)
	picks(t, version(append(low, table(1, 0, "\x7f", "\x80"), table(2, 0, "\x81", "\x81"))...), 2, []int{1, 2, 21}, 1)
	picks(t, version(append(low, table(1, 0, "h", "h"), table(2, 0, "h", "i"))...), 2, []int{1, 2, 17, 18}, 1)
}

// Of a level below 0 the table with the least ID is taken alone, wherever it stands, of equal ones the first, which its range tells; at level 0 all are.
func TestLeastID(t *testing.T) {
	for level := 1; level <= 2; level++ {
		low := []api.Table{table(30, level+1, "a", "a"), table(31, level+1, "b", "b"), table(32, level+1, "c", "c")}
		for _, c := range []struct {
			tables []api.Table
			want   []int
		}{
			{[]api.Table{table(5, level, "a", "a"), table(6, level, "b", "b"), table(7, level, "c", "c")}, []int{5, 30}},
			{[]api.Table{table(7, level, "a", "a"), table(5, level, "b", "b"), table(6, level, "c", "c")}, []int{5, 31}},
			{[]api.Table{table(7, level, "a", "a"), table(6, level, "b", "b"), table(5, level, "c", "c")}, []int{5, 32}},
			{[]api.Table{table(5, level, "b", "b"), table(5, level, "a", "a"), table(5, level, "c", "c")}, []int{5, 31}},
			{[]api.Table{table(6, level, "b", "b"), table(5, level, "c", "d"), table(5, level, "a", "a")}, []int{5, 32}},
			{[]api.Table{table(math.MaxInt, level, "b", "b"), table(math.MinInt, level, "c", "d")}, []int{math.MinInt, 32}},
			{[]api.Table{table(99, level, "a", "b"), table(98, level, "b", "c")}, []int{31, 32, 98}},
		} {
			picks(t, version(append(slices.Clone(c.tables), low...)...), 2, c.want, level+1)
			picks(t, version(append(slices.Clone(low), c.tables...)...), 2, c.want, level+1)
		}
	}
	picks(t, version(table(9, 0, "c", "c"), table(4, 1, "b", "b"), table(5, 0, "a", "a"), table(3, 1, "d", "d")), 2, []int{4, 5, 9}, 1)
	picks(t, version(table(9, 0, "c", "c"), table(9, 1, "b", "b"), table(9, 0, "a", "a"), table(3, 1, "c", "d")), 2, []int{3, 9, 9, 9}, 1)
}

func TestPickOfNothing(t *testing.T) {
	for _, fan := range someFans {
		picks(t, api.Version{}, fan, nil, 0)
		picks(t, api.Version{Tables: []api.Table{}, Log: 3, Seq: 9, Next: 4}, fan, nil, 0)
		picks(t, version(make([]api.Table, 1)...), fan, nil, 0)
	}
	picks(t, version(make([]api.Table, 3)...), 2, []int{0, 0, 0}, 1)
}

// As many tables as there may well be: it ends soon.
func TestManyTables(t *testing.T) {
	const many = 200000
	var v api.Version
	var all, upper []int
	for n := range many {
		v.Tables = append(v.Tables, table(many-n, n%2, "k", "k"))
		all = append(all, n+1)
		if n%2 == 0 {
			upper = append(upper, many-n)
		}
	}
	picks(t, v, 2, all, 1)
	isBottom(t, v, all, 0, false)
	isBottom(t, v, all, 1, true)
	isBottom(t, v, upper, 0, false)
}
