package civil_test

import (
	"math"
	"testing"
	"time"

	"usance/api"
	"usance/civil"
)

type answer struct {
	day   int
	errno api.Errno
}

func told(day int, errno api.Errno) answer {
	return answer{day, errno}
}

type date struct {
	y, m, d int
	errno   api.Errno
}

func split(day int) date {
	y, m, d, errno := civil.Split(day)
	return date{y, m, d, errno}
}

// longest is the chapter's own sentence on months, told another way than the program's.
func longest(y, m int) int {
	switch m {
	case 4, 6, 9, 11:
		return 30
	case 2:
		if y%400 == 0 || y%4 == 0 && y%100 != 0 {
			return 29
		}
		return 28
	}
	return 31
}

// outside are days that aren't.
func outside() []int {
	return []int{api.FirstDay - 1, api.LastDay + 1, api.FirstDay - 146097, api.LastDay + 146097, math.MinInt32, math.MaxInt32, math.MinInt, math.MinInt + 1, math.MaxInt, math.MaxInt - 1, 1 << 55, -1 << 55}
}

func TestOfAndSplit(t *testing.T) {
	for _, c := range []struct {
		y, m, d, day int
	}{
		{1970, 1, 1, 0}, {1970, 1, 2, 1}, {1969, 12, 31, -1}, {2000, 2, 29, 11016}, {2000, 3, 1, 11017},
		{1, 1, 1, api.FirstDay}, {1, 12, 31, api.FirstDay + 364}, {2, 1, 1, api.FirstDay + 365}, {9999, 12, 31, api.LastDay}, {9999, 1, 1, api.LastDay - 364},
		{4, 12, 31, api.FirstDay + 1460}, {400, 12, 31, api.FirstDay + 146096}, {401, 1, 1, api.FirstDay + 146097},
		{1900, 2, 28, -25509}, {1900, 3, 1, -25508}, {2024, 2, 29, 19782}, {2024, 12, 31, 20088},
	} {
		if got := told(civil.Of(c.y, c.m, c.d)); got != (answer{c.day, api.OK}) {
			t.Errorf("Of(%d, %d, %d) = %v, not %d", c.y, c.m, c.d, got, c.day)
		}
		if got := split(c.day); got != (date{c.y, c.m, c.d, api.OK}) {
			t.Errorf("Split(%d) = %v, not %d-%d-%d", c.day, got, c.y, c.m, c.d)
		}
	}
}

func TestOfRefuses(t *testing.T) {
	for _, c := range [][3]int{
		{0, 1, 1}, {-1, 1, 1}, {10000, 1, 1}, {2024, 0, 1}, {2024, -1, 1}, {2024, 13, 1}, {2024, 1, 0}, {2024, 1, -1}, {2024, 1, 32},
		{1900, 2, 29}, {2100, 2, 29}, {2023, 2, 29}, {2024, 2, 30}, {2000, 2, 30}, {2024, 4, 31}, {2024, 6, 31}, {2024, 9, 31}, {2024, 11, 31},
		{math.MinInt, 1, 1}, {math.MaxInt, 1, 1}, {2024, math.MinInt, 1}, {2024, math.MaxInt, 1}, {2024, 1, math.MinInt}, {2024, 1, math.MaxInt},
		{math.MinInt, math.MinInt, math.MinInt}, {math.MaxInt, math.MaxInt, math.MaxInt}, {0, 0, 0},
	} {
		if got := told(civil.Of(c[0], c[1], c[2])); got != (answer{0, api.ErrDate}) {
			t.Errorf("Of(%d, %d, %d) = %v, not ErrDate", c[0], c[1], c[2], got)
		}
	}
}

func TestDaysOutside(t *testing.T) {
	for _, day := range outside() {
		if got := split(day); got != (date{0, 0, 0, api.ErrDate}) {
			t.Errorf("Split(%d) = %v, not ErrDate", day, got)
		}
		if got := told(civil.Weekday(day)); got != (answer{0, api.ErrDate}) {
			t.Errorf("Weekday(%d) = %v, not ErrDate", day, got)
		}
		if text, errno := civil.Text(day); text != "" || errno != api.ErrDate {
			t.Errorf("Text(%d) = %q, %v, not ErrDate", day, text, errno)
		}
		for _, months := range []int{0, 1, -1, 12, -12, 1 << 20, -1 << 20, math.MinInt, math.MaxInt} {
			if got := told(civil.Add(day, months)); got != (answer{0, api.ErrDate}) {
				t.Errorf("Add(%d, %d) = %v, not ErrDate", day, months, got)
			}
		}
	}
}

// Every day there is, counted up from the first, and every date next to them that there isn't.
func TestEveryDay(t *testing.T) {
	day := api.FirstDay
	for y := 0; y <= 10000; y++ {
		for m := 0; m <= 13; m++ {
			for d := 0; d <= 32; d++ {
				want := answer{0, api.ErrDate}
				if y >= 1 && y <= 9999 && m >= 1 && m <= 12 && d >= 1 && d <= longest(y, m) {
					want = answer{day, api.OK}
					if got := split(day); got != (date{y, m, d, api.OK}) {
						t.Fatalf("Split(%d) = %v, not %d-%d-%d", day, got, y, m, d)
					}
					day++
				}
				if got := told(civil.Of(y, m, d)); got != want {
					t.Fatalf("Of(%d, %d, %d) = %v, not %v", y, m, d, got, want)
				}
			}
		}
	}
	if day != api.LastDay+1 {
		t.Errorf("the last day is %d", day-1)
	}
}

func TestWeekday(t *testing.T) {
	for _, c := range [][2]int{{0, 4}, {-1, 3}, {3, 7}, {4, 1}, {-3, 1}, {-4, 7}, {11016, 2}, {api.FirstDay, 1}, {api.LastDay, 5}, {api.FirstDay + 6, 7}} {
		if got := told(civil.Weekday(c[0])); got != (answer{c[1], api.OK}) {
			t.Errorf("Weekday(%d) = %v, not %d", c[0], got, c[1])
		}
	}
	want := 1
	for day := api.FirstDay; day <= api.LastDay; day++ {
		if got := told(civil.Weekday(day)); got != (answer{want, api.OK}) {
			t.Fatalf("Weekday(%d) = %v, not %d", day, got, want)
		}
		want = want%7 + 1
	}
}

func TestAdd(t *testing.T) {
	for _, c := range []struct {
		from   string
		months int
		to     string
	}{
		{"2024-01-31", 1, "2024-02-29"}, {"2023-01-31", 1, "2023-02-28"}, {"1900-01-31", 1, "1900-02-28"}, {"2000-01-30", 1, "2000-02-29"},
		{"2024-01-31", 3, "2024-04-30"}, {"2024-03-31", -1, "2024-02-29"}, {"2024-05-31", -1, "2024-04-30"}, {"2024-02-29", 12, "2025-02-28"},
		{"2024-02-29", 48, "2028-02-29"}, {"2024-02-29", -12, "2023-02-28"}, {"2024-02-29", 1, "2024-03-29"}, {"2023-12-15", 1, "2024-01-15"},
		{"2024-01-15", -1, "2023-12-15"}, {"2024-01-15", -13, "2022-12-15"}, {"2024-01-31", 0, "2024-01-31"}, {"2023-12-31", 12, "2024-12-31"},
		{"1970-01-01", -12 * 1969, "0001-01-01"}, {"0001-01-01", 12*9999 - 1, "9999-12-01"}, {"9999-12-31", -12*9999 + 1, "0001-01-31"}, {"0001-01-31", 12*9999 - 1, "9999-12-31"},
	} {
		day, _ := civil.Read(c.from)
		want, _ := civil.Read(c.to)
		if got := told(civil.Add(day, c.months)); got != (answer{want, api.OK}) {
			t.Errorf("Add(%s, %d) = %v, not %d (%s)", c.from, c.months, got, want, c.to)
		}
	}
}

func TestAddRefuses(t *testing.T) {
	for _, c := range [][2]int{
		{api.LastDay, 1}, {api.LastDay - 30, 1}, {api.FirstDay, -1}, {api.FirstDay + 30, -1}, {api.FirstDay, 12 * 9999}, {api.LastDay, -12 * 9999},
		{api.FirstDay, -12}, {api.LastDay, 12}, {0, -12*1969 - 1}, {0, 12 * 8030},
		{0, math.MinInt}, {0, math.MaxInt}, {api.LastDay, math.MaxInt}, {api.FirstDay, math.MinInt}, {api.LastDay, math.MinInt}, {api.FirstDay, math.MaxInt},
		{0, math.MaxInt32}, {0, math.MinInt32}, {0, 1 << 60}, {0, -1 << 60},
	} {
		if got := told(civil.Add(c[0], c[1])); got != (answer{0, api.ErrDate}) {
			t.Errorf("Add(%d, %d) = %v, not ErrDate", c[0], c[1], got)
		}
	}
}

// addByTime asks the library's calendar, which carries months beyond the twelfth into years.
func addByTime(day, months int) (int, api.Errno) {
	from := time.Unix(int64(day)*86400, 0).UTC()
	month := time.Date(from.Year(), from.Month()+time.Month(months), 1, 0, 0, 0, 0, time.UTC)
	if month.Year() < 1 || month.Year() > 9999 {
		return 0, api.ErrDate
	}
	last := month.AddDate(0, 1, -1).Day()
	return int(month.AddDate(0, 0, min(from.Day(), last)-1).Unix() / 86400), api.OK
}

func TestAddEverywhere(t *testing.T) {
	steps := []int{0, 1, 2, 3, 6, 11, 12, 13, 23, 24, 25, 48, 480, 1199, 1200, 4799, 4800, 12 * 1969, 12 * 8029, 12*9999 - 1, 12 * 9999, 12*9999 + 1}
	for day := api.FirstDay; day <= api.LastDay; day += 17 {
		for _, step := range steps {
			for _, months := range []int{step, -step} {
				if got, want := told(civil.Add(day, months)), told(addByTime(day, months)); got != want {
					t.Fatalf("Add(%d, %d) = %v, not %v", day, months, got, want)
				}
			}
		}
	}
	for _, first := range []int{api.FirstDay, -800, 10957, api.LastDay - 1500} {
		for day := first; day <= first+1500; day++ {
			for months := -30; months <= 30; months++ {
				if got, want := told(civil.Add(day, months)), told(addByTime(day, months)); got != want {
					t.Fatalf("Add(%d, %d) = %v, not %v", day, months, got, want)
				}
			}
		}
	}
}
