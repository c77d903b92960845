package daycount_test

import (
	"math"
	"math/rand"
	"slices"
	"testing"

	"usance/api"
	"usance/civil"
	"usance/daycount"
)

func days(t *testing.T, texts ...string) []int {
	t.Helper()
	var list []int
	for _, text := range texts {
		list = append(list, day(t, text))
	}
	return list
}

func TestDues(t *testing.T) {
	for _, c := range []struct {
		start   string
		step, n int
		want    []int
	}{
		{"2024-01-31", 1, 3, days(t, "2024-02-29", "2024-03-31", "2024-04-30")},
		{"2023-01-31", 1, 2, days(t, "2023-02-28", "2023-03-31")},
		{"2023-12-30", 2, 3, days(t, "2024-02-29", "2024-04-30", "2024-06-30")},
		{"2024-02-29", 12, 4, days(t, "2025-02-28", "2026-02-28", "2027-02-28", "2028-02-29")},
		{"2024-05-15", 3, 4, days(t, "2024-08-15", "2024-11-15", "2025-02-15", "2025-05-15")},
		{"2024-05-15", 120, 2, days(t, "2034-05-15", "2044-05-15")},
		{"2024-05-15", 5, 1, days(t, "2024-10-15")},
		{"2024-05-15", 5, 0, nil},
		{"0001-01-01", 1, 1, days(t, "0001-02-01")},
		{"9999-11-30", 1, 1, days(t, "9999-12-30")},
		{"9999-12-31", 1, 0, nil},
		{"1969-11-30", 1, 3, days(t, "1969-12-30", "1970-01-30", "1970-02-28")},
	} {
		got, errno := daycount.Dues(day(t, c.start), c.step, c.n)
		if errno != api.OK || !slices.Equal(got, c.want) {
			t.Errorf("Dues(%s, %d, %d) = %v %d, not %v", c.start, c.step, c.n, got, errno, c.want)
		}
	}
}

func TestDuesRefuses(t *testing.T) {
	last := day(t, "9999-12-31")
	for _, c := range []struct {
		start, step, n int
		want           api.Errno
	}{
		{0, 0, 1, api.ErrRange}, {0, -1, 1, api.ErrRange}, {0, 121, 1, api.ErrRange}, {0, 121, 0, api.ErrRange}, {0, 0, 0, api.ErrRange},
		{0, math.MinInt, 1, api.ErrRange}, {0, math.MaxInt, 1, api.ErrRange}, {0, 1<<32 + 1, 1, api.ErrRange},
		{0, 1, -1, api.ErrRange}, {0, 1, 481, api.ErrRange}, {0, 1, math.MinInt, api.ErrRange}, {0, 1, math.MaxInt, api.ErrRange}, {0, 1, 1<<32 + 1, api.ErrRange},
		// ErrRange is named ahead of ErrDate.
		{math.MaxInt, 0, 1, api.ErrRange}, {math.MinInt, 1, 481, api.ErrRange}, {last, 121, 480, api.ErrRange}, {last + 1, 1, -1, api.ErrRange},
		{0, 120, 480, api.OK}, {0, 1, 480, api.OK}, {0, 1, 0, api.OK}, {api.FirstDay, 120, 480, api.OK},
		{last, 1, 1, api.ErrDate}, {last, 120, 480, api.ErrDate}, {last, 1, 0, api.OK},
		// Of several days the last one alone isn't.
		{day(t, "9999-10-31"), 1, 2, api.OK}, {day(t, "9999-10-31"), 1, 3, api.ErrDate},
		{day(t, "9989-12-31"), 120, 1, api.OK}, {day(t, "9990-01-01"), 120, 1, api.ErrDate}, {day(t, "9989-12-31"), 120, 2, api.ErrDate},
		{day(t, "9959-12-31"), 1, 480, api.OK}, {day(t, "9960-01-01"), 1, 480, api.ErrDate},
	} {
		got, errno := daycount.Dues(c.start, c.step, c.n)
		if errno != c.want || errno != api.OK && len(got) > 0 || errno == api.OK && len(got) != c.n {
			t.Errorf("Dues(%d, %d, %d) = %d days, %d, not %d", c.start, c.step, c.n, len(got), errno, c.want)
		}
	}
	for _, v := range outside() {
		for _, n := range []int{0, 1, 480} {
			if got, errno := daycount.Dues(v, 1, n); errno != api.ErrDate || len(got) > 0 {
				t.Errorf("Dues(%d, 1, %d) = %d days, %d, not ErrDate", v, n, len(got), errno)
			}
		}
	}
}

// The words of the chapter themselves, over starts and steps of all kinds.
func TestDuesEverywhere(t *testing.T) {
	source := rand.New(rand.NewSource(5))
	for range 2000 {
		start, step, n := api.FirstDay+source.Intn(api.LastDay-api.FirstDay+1), 1+source.Intn(120), source.Intn(481)
		want, wanted := []int{}, api.OK
		for k := 1; k <= n; k++ {
			due, errno := civil.Add(start, k*step)
			if errno != api.OK {
				want, wanted = nil, api.ErrDate
				break
			}
			want = append(want, due)
		}
		if got, errno := daycount.Dues(start, step, n); errno != wanted || !slices.Equal(got, want) {
			t.Fatalf("Dues(%d, %d, %d) = %v %d, not %v %d", start, step, n, got, errno, want, wanted)
		}
	}
}

func TestCut(t *testing.T) {
	for _, c := range []struct {
		from, to   int
		days, want []int
	}{
		{5, 9, []int{7, 5, 6, 7, 12}, []int{5, 6, 7, 9}},
		{5, 9, nil, []int{5, 9}},
		{5, 9, []int{}, []int{5, 9}},
		{5, 9, []int{5, 9, 5, 9}, []int{5, 9}},
		{5, 9, []int{4, 10}, []int{5, 9}},
		{5, 9, []int{8, 7, 6}, []int{5, 6, 7, 8, 9}},
		{5, 9, []int{6, 6, 8, 8, 6}, []int{5, 6, 8, 9}},
		{5, 6, []int{5, 6, 7, 4}, []int{5, 6}},
		{5, 5, nil, []int{5}},
		{5, 5, []int{5}, []int{5}},
		{5, 5, []int{4, 5, 6, 5}, []int{5}},
		{-3, 3, []int{2, 0, -2, -4, 4, 0}, []int{-3, -2, 0, 2, 3}},
		{0, 0, []int{0}, []int{0}},
		{api.FirstDay, api.FirstDay, []int{math.MinInt}, []int{api.FirstDay}},
		{api.LastDay, api.LastDay, []int{math.MaxInt}, []int{api.LastDay}},
		{api.FirstDay, api.LastDay, []int{math.MaxInt, api.LastDay - 1, api.LastDay + 1, 0, api.FirstDay - 1, api.FirstDay + 1, math.MinInt}, []int{api.FirstDay, api.FirstDay + 1, 0, api.LastDay - 1, api.LastDay}},
	} {
		if got, errno := daycount.Cut(c.from, c.to, c.days); errno != api.OK || !slices.Equal(got, c.want) {
			t.Errorf("Cut(%d, %d, %v) = %v %d, not %v", c.from, c.to, c.days, got, errno, c.want)
		}
	}
}

func TestCutRefuses(t *testing.T) {
	list := []int{1, 2, 3}
	refuse := func(from, to int) {
		t.Helper()
		if got, errno := daycount.Cut(from, to, list); errno != api.ErrDate || len(got) > 0 {
			t.Errorf("Cut(%d, %d) = %v %d, not ErrDate", from, to, got, errno)
		}
	}
	refuse(9, 5)
	refuse(1, 0)
	refuse(api.LastDay, api.FirstDay)
	for _, v := range outside() {
		for _, c := range [][2]int{{v, 0}, {0, v}, {v, v}, {v, api.LastDay}, {api.LastDay, v}, {api.FirstDay, v}, {v, api.FirstDay}, {v, v + 1}} {
			refuse(c[0], c[1])
		}
	}
}

// Each day of the stretch is asked for by itself.
func TestCutEverywhere(t *testing.T) {
	source := rand.New(rand.NewSource(6))
	for range 5000 {
		from := -50 + source.Intn(100)
		to := from + source.Intn(40)
		list := make([]int, source.Intn(60))
		for i := range list {
			list[i] = from - 5 + source.Intn(50)
		}
		var want []int
		for v := from; v <= to; v++ {
			if v == from || v == to || slices.Contains(list, v) {
				want = append(want, v)
			}
		}
		if got, errno := daycount.Cut(from, to, list); errno != api.OK || !slices.Equal(got, want) {
			t.Fatalf("Cut(%d, %d, %v) = %v %d, not %v", from, to, list, got, errno, want)
		}
	}
}

// What is handed in stays as it is, spare room included, and answers are nobody else's (R4, R5).
func TestListsAreTheirOwn(t *testing.T) {
	for _, list := range [][]int{{7, 5, 6, 7, 12}, {5, 6, 7, 9}, {6, 7}, {6}} {
		whole := append(slices.Clone(list), 8, 4, 7)
		kept := slices.Clone(whole)
		first, _ := daycount.Cut(5, 9, whole[:len(list)])
		want := slices.Clone(first)
		spoil(first)
		if !slices.Equal(whole, kept) {
			t.Errorf("Cut of %v made of it %v", kept, whole)
		}
		if again, errno := daycount.Cut(5, 9, whole[:len(list)]); errno != api.OK || !slices.Equal(again, want) {
			t.Errorf("Cut of %v is %v, then %v", list, want, again)
		}
	}
	dues, _ := daycount.Dues(0, 1, 5)
	want := slices.Clone(dues)
	spoil(dues)
	if again, errno := daycount.Dues(0, 1, 5); errno != api.OK || !slices.Equal(again, want) {
		t.Errorf("Dues is %v, then %v", want, again)
	}
}

// spoil writes over the whole list, its spare room too.
func spoil(list []int) {
	list = list[:cap(list)]
	for i := range list {
		list[i] = -9999
	}
}
