package manifest_test

import (
	"math"
	"slices"
	"strings"
	"testing"

	"usance/api"
	"usance/manifest"
)

// folds tells that Fold answers the version.
func folds(t *testing.T, v api.Version, e api.Edit, want string) {
	t.Helper()
	got, errno := manifest.Fold(v, e)
	is(t, "Fold", errno, api.OK)
	if told(got) != want {
		t.Errorf("Fold(%s, %.300v) = %s, not %s", told(v), e, told(got), want)
	}
}

// refuses tells that Fold answers the error and nothing beside it.
func refuses(t *testing.T, v api.Version, e api.Edit, want api.Errno) {
	t.Helper()
	got, errno := manifest.Fold(v, e)
	if errno != want || told(got) != told(api.Version{}) {
		t.Fatalf("Fold(%.300v, %.300v): %d and %s, not %d", v, e, errno, told(got), want)
	}
}

// row are plain tables with IDs from first on.
func row(first, n int) []api.Table {
	var tables []api.Table
	for i := range n {
		tables = append(tables, plain(first+i))
	}
	return tables
}

// ids are those of the tables.
func ids(tables []api.Table) []int {
	var list []int
	for _, t := range tables {
		list = append(list, t.ID)
	}
	return list
}

func TestFoldExamples(t *testing.T) {
	folds(t, api.Version{}, adds(7), `log 0 seq 0 next 8, 7/0/1 "a" "b"`)
	v := api.Version{Tables: []api.Table{table(7, 2, 9, "c", "d")}, Log: 3, Seq: 4, Next: 8}
	folds(t, v, api.Edit{Add: []api.Table{table(8, 1, 2, "e", "f"), plain(5)}, Drop: []int{7}, Log: 5, Seq: 6}, `log 5 seq 6 next 9, 5/0/1 "a" "b", 8/1/2 "e" "f"`)
	folds(t, v, api.Edit{Add: []api.Table{plain(5)}, Log: 3, Seq: 4}, `log 3 seq 4 next 8, 5/0/1 "a" "b", 7/2/9 "c" "d"`)
}

func TestFoldLong(t *testing.T) {
	v := api.Version{Tables: row(1, 1025)}
	for n := range 1027 {
		if n > 3 && n < 1020 {
			continue
		}
		e := api.Edit{Add: row(2000, n)}
		if n > 1024 {
			refuses(t, v, e, api.ErrLong)
		} else {
			folds(t, api.Version{}, e, told(api.Version{Tables: row(2000, n), Next: max(1, 2000*min(n, 1)+n)}))
		}
		e = api.Edit{Drop: ids(row(1, n))}
		switch {
		case n > 1024:
			refuses(t, v, e, api.ErrLong)
		default:
			folds(t, v, e, told(api.Version{Tables: row(1+n, 1025-n), Next: 1}))
		}
	}
	folds(t, v, api.Edit{Add: row(2000, 1024), Drop: ids(row(1, 1024))}, told(api.Version{Tables: append(row(1025, 1), row(2000, 1024)...), Next: 3024}))
}

func TestFoldRange(t *testing.T) {
	v := api.Version{Tables: row(5, 2), Log: 3, Seq: -4, Next: 7}
	for _, c := range []struct {
		x    api.Table
		want api.Errno
	}{
		{plain(1), api.OK}, {plain(999999), api.OK},
		{plain(0), api.ErrRange}, {plain(-1), api.ErrRange}, {plain(1000000), api.ErrRange}, {plain(math.MinInt), api.ErrRange}, {plain(math.MaxInt), api.ErrRange},
		{table(9, 3, 1, "a", "b"), api.OK}, {table(9, 4, 1, "a", "b"), api.ErrRange}, {table(9, -1, 1, "a", "b"), api.ErrRange}, {table(9, math.MaxInt, 1, "a", "b"), api.ErrRange}, {table(9, math.MinInt, 1, "a", "b"), api.ErrRange},
		{table(9, 0, math.MaxInt, "a", "b"), api.OK}, {table(9, 0, 0, "a", "b"), api.ErrRange}, {table(9, 0, -1, "a", "b"), api.ErrRange}, {table(9, 0, math.MinInt, "a", "b"), api.ErrRange},
	} {
		for _, tables := range [][]api.Table{{c.x}, {plain(20), c.x}, {c.x, plain(20)}} {
			e := api.Edit{Add: tables, Log: 3, Seq: -4}
			if c.want != api.OK {
				refuses(t, v, e, c.want)
			} else if _, errno := manifest.Fold(v, e); errno != api.OK {
				t.Errorf("Fold of %v: %d", c.x, errno)
			}
		}
	}
	for log := 1; log < 6; log++ {
		for seq := -6; seq < -1; seq++ {
			if log < 3 || seq < -4 {
				refuses(t, v, api.Edit{Log: log, Seq: seq}, api.ErrRange)
			} else {
				folds(t, v, api.Edit{Log: log, Seq: seq}, told(api.Version{Tables: row(5, 2), Log: log, Seq: seq, Next: 7}))
			}
		}
	}
	least := api.Version{Log: math.MinInt, Seq: math.MinInt}
	folds(t, least, api.Edit{Log: math.MinInt, Seq: math.MinInt}, told(api.Version{Log: math.MinInt, Seq: math.MinInt, Next: 1}))
	greatest := api.Version{Log: math.MaxInt, Seq: math.MaxInt, Next: math.MaxInt}
	folds(t, greatest, api.Edit{Log: math.MaxInt, Seq: math.MaxInt}, told(greatest))
	refuses(t, greatest, api.Edit{Log: math.MinInt, Seq: math.MaxInt}, api.ErrRange)
	refuses(t, greatest, api.Edit{Log: math.MaxInt, Seq: math.MaxInt - 1}, api.ErrRange)
}

func TestFoldKeys(t *testing.T) {
	long := strings.Repeat("k", 200)
	for _, c := range []struct {
		lo, hi string
		want   api.Errno
	}{
		{"a", "b", api.OK}, {"a", "a", api.OK}, {"b", "a", api.ErrKey},
		{"a", "aa", api.OK}, {"aa", "a", api.ErrKey}, {"a", "a\x00", api.OK}, {"a\x00", "a", api.ErrKey},
		{"\x7f", "\x80", api.OK}, {"\x80", "\x7f", api.ErrKey}, {"\x00", "\xff", api.OK}, {"b", "aa", api.ErrKey},
		{"", "a", api.ErrKey}, {"a", "", api.ErrKey}, {"", "", api.ErrKey}, {"\x00", "\x00", api.OK},
		{long, long, api.OK}, {long, long + "k", api.ErrKey}, {long + "k", long + "k", api.ErrKey}, {long + "k", "z", api.ErrKey}, {"a", long, api.OK}, {long, "z", api.OK},
	} {
		x := table(9, 0, 1, c.lo, c.hi)
		for _, tables := range [][]api.Table{{x}, {plain(20), x}, {x, plain(20)}} {
			if c.want != api.OK {
				refuses(t, api.Version{}, api.Edit{Add: tables}, c.want)
			} else if _, errno := manifest.Fold(api.Version{}, api.Edit{Add: tables}); errno != api.OK {
				t.Errorf("Fold of %q to %q: %d", c.lo, c.hi, errno)
			}
		}
	}
}

// causes are what an edit may be refused for, in the order in which the errors are named.
func causes() []func(e *api.Edit) api.Errno {
	add := func(errno api.Errno, tables ...api.Table) func(e *api.Edit) api.Errno {
		return func(e *api.Edit) api.Errno {
			e.Add = append(e.Add, tables...)
			return errno
		}
	}
	drop := func(errno api.Errno, ids ...int) func(e *api.Edit) api.Errno {
		return func(e *api.Edit) api.Errno {
			e.Drop = append(e.Drop, ids...)
			return errno
		}
	}
	return []func(e *api.Edit) api.Errno{
		add(api.ErrLong, row(1000, 1024)...),
		drop(api.ErrLong, make([]int, 1025)...),
		drop(api.ErrNone, 8),
		drop(api.ErrNone, 5, 5),
		func(e *api.Edit) api.Errno { e.Log--; return api.ErrRange },
		func(e *api.Edit) api.Errno { e.Seq--; return api.ErrRange },
		add(api.ErrRange, plain(0)),
		add(api.ErrKey, table(60, 0, 1, "b", "a")),
		add(api.ErrTwice, plain(6)),
		add(api.ErrTwice, plain(70), plain(70)),
	}
}

// Of several errors the one that is named first is answered, of all choices of causes, whether they stand in that order in the edit or turned.
func TestFoldErrorsInOrder(t *testing.T) {
	v := api.Version{Tables: row(5, 2), Log: 3, Seq: 4, Next: 7}
	all := causes()
	for pick := 1; pick < 1<<len(all); pick++ {
		e := api.Edit{Add: row(50, 2), Log: 3, Seq: 4}
		want := api.OK
		for i, cause := range all {
			if pick>>i&1 == 0 {
				continue
			}
			if errno := cause(&e); want == api.OK {
				want = errno
			}
		}
		refuses(t, v, e, want)
		slices.Reverse(e.Add)
		slices.Reverse(e.Drop)
		refuses(t, v, e, want)
	}
	// One table may have several of them.
	refuses(t, v, api.Edit{Add: []api.Table{table(5, 4, 0, "", "")}, Log: 3, Seq: 4}, api.ErrRange)
	refuses(t, v, api.Edit{Add: []api.Table{table(5, 3, 1, "", "")}, Log: 3, Seq: 4}, api.ErrKey)
}

// The version that is handed in may be any: its tables aren't asked whether they may be.
func TestFoldOfAnyVersion(t *testing.T) {
	v := api.Version{Tables: []api.Table{{ID: 9, Level: -1, Count: -5, Lo: []byte("z")}, {ID: -3}, {ID: 9, Level: 7}, {ID: math.MaxInt}, {ID: -3, Count: 2}}, Log: -1, Seq: -2, Next: -7}
	folds(t, v, api.Edit{}, `log 0 seq 0 next 1, -3/0/0 "" "", -3/0/2 "" "", 9/-1/-5 "z" "", 9/7/0 "" "", 9223372036854775807/0/0 "" ""`)
	folds(t, v, api.Edit{Drop: []int{-3, math.MaxInt}, Add: []api.Table{plain(4)}}, `log 0 seq 0 next 5, 4/0/1 "a" "b", 9/-1/-5 "z" "", 9/7/0 "" ""`)
	folds(t, v, api.Edit{Drop: []int{9}, Add: []api.Table{plain(10)}}, `log 0 seq 0 next 11, -3/0/0 "" "", -3/0/2 "" "", 10/0/1 "a" "b", 9223372036854775807/0/0 "" ""`)
	refuses(t, v, api.Edit{Drop: []int{9, 9}}, api.ErrNone)
	refuses(t, v, api.Edit{Drop: []int{9}, Add: []api.Table{plain(9)}}, api.ErrTwice)
	v.Next = math.MaxInt
	folds(t, v, api.Edit{Drop: []int{-3, 9, math.MaxInt}, Add: []api.Table{plain(999999)}}, `log 0 seq 0 next 9223372036854775807, 999999/0/1 "a" "b"`)
	v.Next = 1000000
	folds(t, v, api.Edit{Drop: []int{-3, 9, math.MaxInt}, Add: []api.Table{plain(999999)}}, `log 0 seq 0 next 1000000, 999999/0/1 "a" "b"`)
}

// Of equal IDs, however many, the tables stand as they did.
func TestFoldKeepsOrder(t *testing.T) {
	var v, want api.Version
	for i := range 300 {
		x := plain(3 - i%3)
		x.Count = i
		v.Tables = append(v.Tables, x)
	}
	for id := range 4 {
		for _, x := range v.Tables {
			if x.ID == id {
				want.Tables = append(want.Tables, x)
			}
		}
	}
	want.Tables = append(want.Tables, plain(7), plain(9))
	want.Next = 10
	folds(t, v, adds(9, 7), told(want))
	want.Tables = slices.DeleteFunc(want.Tables, func(x api.Table) bool { return x.ID == 2 })
	e := adds(9, 7)
	e.Drop = []int{2}
	folds(t, v, e, told(want))
}
