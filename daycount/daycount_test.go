package daycount_test

import (
	"math"
	"math/rand"
	"testing"
	"time"

	"usance/api"
	"usance/civil"
	"usance/daycount"
)

type answer struct {
	num, den int
	errno    api.Errno
}

func told(num, den int, errno api.Errno) answer {
	return answer{num, den, errno}
}

func day(t *testing.T, text string) int {
	t.Helper()
	v, errno := civil.Read(text)
	if errno != api.OK {
		t.Fatalf("Read(%q): %d", text, errno)
	}
	return v
}

// outside are numbers that are no days.
func outside() []int {
	return []int{api.FirstDay - 1, api.LastDay + 1, api.FirstDay - 146097, api.LastDay + 146097, math.MinInt32, math.MaxInt32, math.MinInt, math.MinInt + 1, math.MaxInt, math.MaxInt - 1, 1 << 55, -1 << 55}
}

// counted is the chapter's sentence on Count, told another way: by the library's calendar, and by days of the month cut at 30.
func counted(conv, from, to int) answer {
	if conv < 1 || conv > 3 {
		return answer{0, 0, api.ErrRange}
	}
	for _, v := range []int{from, to} {
		if v < api.FirstDay || v > api.LastDay {
			return answer{0, 0, api.ErrDate}
		}
	}
	if from > to {
		return answer{0, 0, api.ErrDate}
	}
	switch conv {
	case 2:
		return answer{to - from, 360, api.OK}
	case 3:
		return answer{to - from, 365, api.OK}
	}
	first, last := time.Unix(int64(from)*86400, 0).UTC(), time.Unix(int64(to)*86400, 0).UTC()
	d, e := min(first.Day(), 30), last.Day()
	if d == 30 {
		e = min(e, 30)
	}
	whole := func(when time.Time) int { return 360*when.Year() + 30*int(when.Month()) }
	return answer{whole(last) + e - whole(first) - d, 360, api.OK}
}

func TestCountThirty360(t *testing.T) {
	for _, c := range []struct {
		from, to string
		num      int
	}{
		{"2024-01-31", "2024-02-29", 29},
		{"2024-01-30", "2024-01-31", 0},
		{"2024-01-31", "2024-01-31", 0},
		{"2024-01-29", "2024-01-31", 2},
		{"2024-01-15", "2024-01-31", 16},
		{"2024-01-15", "2024-01-30", 15},
		{"2024-01-30", "2024-03-31", 60},
		{"2024-01-31", "2024-03-31", 60},
		{"2024-01-31", "2024-03-30", 60},
		{"2024-01-29", "2024-03-31", 62},
		{"2024-01-31", "2024-03-01", 31},
		{"2024-01-30", "2024-02-29", 29},
		// The end of February is no day 30.
		{"2023-02-28", "2023-03-31", 33},
		{"2024-02-29", "2024-03-31", 32},
		{"2024-02-29", "2024-03-01", 2},
		{"2023-02-28", "2023-03-01", 3},
		{"2024-02-28", "2024-02-29", 1},
		{"2023-02-28", "2024-02-29", 361},
		{"2023-12-31", "2024-12-31", 360},
		{"2023-12-31", "2024-01-01", 1},
		{"2023-12-30", "2024-01-01", 1},
		{"2024-12-01", "2025-01-01", 30},
		{"2024-12-15", "2025-01-14", 29},
		{"2024-05-07", "2024-05-07", 0},
		{"1970-01-01", "1970-01-01", 0},
		{"1969-12-31", "1970-01-01", 1},
		{"0001-01-01", "9999-12-31", 3599640},
		{"0001-01-31", "9999-12-31", 3599610},
		{"9999-12-31", "9999-12-31", 0},
	} {
		if got := told(daycount.Count(1, day(t, c.from), day(t, c.to))); got != (answer{c.num, 360, api.OK}) {
			t.Errorf("Count(1, %s, %s) = %v, not %d", c.from, c.to, got, c.num)
		}
	}
}

func TestCountActual(t *testing.T) {
	for _, c := range []struct {
		from, to string
		num      int
	}{
		{"2024-01-31", "2024-02-29", 29},
		{"2024-01-30", "2024-01-31", 1},
		{"2024-01-01", "2025-01-01", 366},
		{"2023-01-01", "2024-01-01", 365},
		{"1969-12-31", "1970-01-02", 2},
		{"2024-05-07", "2024-05-07", 0},
		{"0001-01-01", "9999-12-31", api.LastDay - api.FirstDay},
	} {
		from, to := day(t, c.from), day(t, c.to)
		if got := told(daycount.Count(2, from, to)); got != (answer{c.num, 360, api.OK}) {
			t.Errorf("Count(2, %s, %s) = %v, not %d of 360", c.from, c.to, got, c.num)
		}
		if got := told(daycount.Count(3, from, to)); got != (answer{c.num, 365, api.OK}) {
			t.Errorf("Count(3, %s, %s) = %v, not %d of 365", c.from, c.to, got, c.num)
		}
	}
}

func TestCountRefuses(t *testing.T) {
	for _, conv := range []int{0, 4, -1, -2, -3, 5, 255, 256, 257, 1 << 32, 1<<32 + 1, math.MinInt, math.MaxInt} {
		// What else is wrong is named behind it.
		for _, c := range [][2]int{{1, 2}, {0, 0}, {2, 1}, {math.MinInt, 0}, {0, math.MaxInt}} {
			if got := told(daycount.Count(conv, c[0], c[1])); got != (answer{0, 0, api.ErrRange}) {
				t.Errorf("Count(%d, %d, %d) = %v, not ErrRange", conv, c[0], c[1], got)
			}
		}
	}
	for conv := 1; conv <= 3; conv++ {
		for _, c := range [][2]int{{2, 1}, {0, -1}, {api.LastDay, api.FirstDay}, {api.LastDay, api.LastDay - 1}, {api.FirstDay + 1, api.FirstDay}} {
			if got := told(daycount.Count(conv, c[0], c[1])); got != (answer{0, 0, api.ErrDate}) {
				t.Errorf("Count(%d, %d, %d) = %v, not ErrDate", conv, c[0], c[1], got)
			}
		}
		for _, v := range outside() {
			for _, c := range [][2]int{{v, 0}, {0, v}, {v, v}, {v, api.LastDay}, {api.LastDay, v}, {api.FirstDay, v}, {v, api.FirstDay}, {v, v + 1}} {
				if got := told(daycount.Count(conv, c[0], c[1])); got != (answer{0, 0, api.ErrDate}) {
					t.Errorf("Count(%d, %d, %d) = %v, not ErrDate", conv, c[0], c[1], got)
				}
			}
		}
		for _, v := range []int{api.FirstDay, api.LastDay} {
			if got := told(daycount.Count(conv, v, v)); got.num != 0 || got.errno != api.OK {
				t.Errorf("Count(%d, %d, %d) = %v", conv, v, v, got)
			}
		}
	}
}

// Each pair of days within some years (common, leap, of a hundred's end and of both ends of the calendar), and pairs far apart.
func TestCountEverywhere(t *testing.T) {
	check := func(conv, from, to int) {
		if got, want := told(daycount.Count(conv, from, to)), counted(conv, from, to); got != want {
			t.Fatalf("Count(%d, %d, %d) = %v, not %v", conv, from, to, got, want)
		}
	}
	for _, first := range []int{api.FirstDay, day(t, "1899-12-01"), day(t, "1999-12-01"), day(t, "2022-12-31"), api.LastDay - 430} {
		for from := first; from <= first+430; from++ {
			for to := first; to <= first+430; to++ {
				check(1, from, to)
			}
			check(2, from, first+430)
			check(3, from, first+430)
		}
	}
	source := rand.New(rand.NewSource(3))
	for range 200000 {
		// Now and then a day beyond the calendar's ends, or a convention that isn't.
		from := api.FirstDay - 1000 + source.Intn(api.LastDay-api.FirstDay+2000)
		to := api.FirstDay - 1000 + source.Intn(api.LastDay-api.FirstDay+2000)
		check(source.Intn(5), from, to)
		check(1+source.Intn(3), min(from, to), max(from, to))
	}
}

// Two stretches, one behind the other, make both with conventions 2 and 3 (P3.4).
func TestCountAddsUp(t *testing.T) {
	source := rand.New(rand.NewSource(4))
	pick := func() int { return api.FirstDay + source.Intn(api.LastDay-api.FirstDay+1) }
	for range 100000 {
		a, b, c := pick(), pick(), pick()
		low, high := min(a, b, c), max(a, b, c)
		middle := a + b + c - low - high
		for conv := 2; conv <= 3; conv++ {
			first, second, both := told(daycount.Count(conv, low, middle)), told(daycount.Count(conv, middle, high)), told(daycount.Count(conv, low, high))
			if first.num+second.num != both.num || first.den != both.den || second.den != both.den || both.errno != api.OK {
				t.Fatalf("Count(%d) of %d, %d, %d: %v and %v, both %v", conv, low, middle, high, first, second, both)
			}
		}
	}
}
