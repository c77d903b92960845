package amount_test

import (
	"math"
	"math/big"
	"math/rand"
	"slices"
	"testing"

	"usance/amount"
	"usance/api"
)

func repeated(v int64, n int) []int64 {
	return slices.Repeat([]int64{v}, n)
}

func TestSplit(t *testing.T) {
	for _, c := range []struct {
		total   int64
		weights []int64
		want    []int64
	}{
		{100, []int64{1, 1, 1}, []int64{34, 33, 33}},
		{-100, []int64{1, 1, 1}, []int64{-34, -33, -33}},
		{101, []int64{1, 1, 1}, []int64{34, 34, 33}},
		{10, []int64{0, 3, 7}, []int64{0, 3, 7}},
		{10, []int64{7}, []int64{10}},
		{0, []int64{1, 2}, []int64{0, 0}},
		{1, []int64{1, 2}, []int64{0, 1}},
		{-1, []int64{1, 2}, []int64{0, -1}},
		{1, []int64{2, 2}, []int64{1, 0}},
		// What is left over goes by the remainders (2, 5, 3 of 10), not by the weights or the places.
		{1, []int64{2, 5, 3}, []int64{0, 1, 0}},
		{2, []int64{2, 5, 3}, []int64{0, 1, 1}},
		{3, []int64{0, 1, 1}, []int64{0, 2, 1}},
		{1, []int64{0, 0, 1}, []int64{0, 0, 1}},
		{api.MaxMoney, []int64{1000000000, 1000000000}, []int64{500000000000000, 500000000000000}},
		{-api.MaxMoney, []int64{0, 1000000000}, []int64{0, -api.MaxMoney}},
	} {
		got, errno := amount.Split(c.total, c.weights)
		if errno != api.OK || !slices.Equal(got, c.want) {
			t.Errorf("Split(%d, %v) = %v %d, not %v", c.total, c.weights, got, errno, c.want)
		}
	}
}

func TestSplitRefuses(t *testing.T) {
	for _, c := range []struct {
		name    string
		total   int64
		weights []int64
		want    api.Errno
	}{
		{"nil", 10, nil, api.ErrLong},
		{"none", 10, []int64{}, api.ErrLong},
		{"none, and a total beyond", math.MaxInt64, nil, api.ErrLong},
		{"1024", 10, repeated(1, 1024), api.OK},
		{"1025", 10, repeated(1, 1025), api.ErrLong},
		{"1025 that can't be", math.MinInt64, repeated(-1, 1025), api.ErrLong},
		{"below 0", 10, []int64{1, -1}, api.ErrRange},
		{"a pair of 0 in all", 10, []int64{1, -1, 0}, api.ErrRange},
		{"10^9", 10, []int64{1000000000}, api.OK},
		{"above 10^9", 10, []int64{1000000001}, api.ErrRange},
		{"the greatest", 10, repeated(math.MaxInt64, 1024), api.ErrRange},
		{"the least", 10, repeated(math.MinInt64, 2), api.ErrRange},
		{"0 alone", 10, []int64{0}, api.ErrRange},
		{"noughts of nothing", 0, []int64{0, 0}, api.ErrRange},
		{"a total of 10^15", api.MaxMoney, []int64{1}, api.OK},
		{"a total beyond", api.MaxMoney + 1, []int64{1}, api.ErrRange},
		{"a total of -10^15", -api.MaxMoney, []int64{1}, api.OK},
		{"a total below", -api.MaxMoney - 1, []int64{1}, api.ErrRange},
		{"the least total", math.MinInt64, []int64{1}, api.ErrRange},
	} {
		got, errno := amount.Split(c.total, c.weights)
		if errno != c.want {
			t.Errorf("%s: %d, not %d", c.name, errno, c.want)
		}
		if errno != api.OK && len(got) != 0 {
			t.Errorf("%s: %v beside an error", c.name, got)
		}
	}
}

// splitByBig takes for each that is left over the first of the greatest remainders, anew each time.
func splitByBig(total int64, weights []int64) []int64 {
	sum := new(big.Int)
	for _, weight := range weights {
		sum.Add(sum, big.NewInt(weight))
	}
	sign := int64(1)
	if total < 0 {
		sign, total = -1, -total
	}
	shares, rests, left := make([]int64, len(weights)), make([]*big.Int, len(weights)), total
	for i, weight := range weights {
		part, rest := new(big.Int).QuoRem(product(total, weight), sum, new(big.Int))
		shares[i], rests[i] = part.Int64(), rest
		left -= shares[i]
	}
	for ; left > 0; left-- {
		best := 0
		for i := range rests {
			if rests[i].Cmp(rests[best]) > 0 {
				best = i
			}
		}
		shares[best]++
		rests[best] = big.NewInt(-1)
	}
	for i := range shares {
		shares[i] *= sign
	}
	return shares
}

func TestSplitEverywhere(t *testing.T) {
	source := rand.New(rand.NewSource(3))
	for range 4000 {
		weights := make([]int64, 1+source.Intn(20))
		for i := range weights {
			weights[i] = source.Int63n(1000000001) >> source.Intn(31)
		}
		weights[source.Intn(len(weights))] += 1
		weights[0] = min(weights[0], 1000000000)
		total := source.Int63n(2*api.MaxMoney+1) - api.MaxMoney
		total >>= source.Intn(50)
		checkSplit(t, total, weights)
	}
	for _, n := range []int{1, 2, 1023, 1024} {
		for _, total := range []int64{0, 1, 2, 1022, 1023, 1024, 1025, api.MaxMoney - 1, api.MaxMoney} {
			checkSplit(t, total, repeated(1000000000, n))
			checkSplit(t, -total, repeated(1, n))
		}
	}
}

func checkSplit(t *testing.T, total int64, weights []int64) {
	t.Helper()
	for _, weight := range weights {
		if weight > 1000000000 {
			return
		}
	}
	got, errno := amount.Split(total, weights)
	if want := splitByBig(total, weights); errno != api.OK || !slices.Equal(got, want) {
		t.Fatalf("Split(%d, %v) = %v %d, not %v", total, weights, got, errno, want)
	}
	var sum int64
	for _, share := range got {
		sum += share
	}
	if sum != total {
		t.Fatalf("Split(%d, %v): the shares make %d", total, weights, sum)
	}
}

// The rule R4: what is handed in stands as it stood, its spare room too, and what is answered is new memory.
func TestSplitIsNewMemory(t *testing.T) {
	for _, total := range []int64{100, -100, 0} {
		room := []int64{3, 1, 1, 1, 77, 88, 99}
		before := slices.Clone(room)
		weights := room[:4]
		first, _ := amount.Split(total, weights)
		second, _ := amount.Split(total, weights)
		kept := slices.Clone(second)
		fill(first[:cap(first)], -7)
		if !slices.Equal(room, before) {
			t.Fatalf("Split(%d): the weights are %v now, and were %v", total, room, before)
		}
		if !slices.Equal(second, kept) {
			t.Fatalf("Split(%d): two answers share memory", total)
		}
		fill(room, -9)
		if !slices.Equal(second, kept) {
			t.Fatalf("Split(%d): the answer shares the weights' memory", total)
		}
		if third, _ := amount.Split(total, before[:4]); !slices.Equal(third, kept) {
			t.Fatalf("Split(%d): %v now, and %v before", total, third, kept)
		}
	}
}

func fill(list []int64, v int64) {
	for i := range list {
		list[i] = v
	}
}

func TestSplitRefusingChangesNothing(t *testing.T) {
	room := []int64{1, 2, -1, 5, 6}
	before := slices.Clone(room)
	if got, errno := amount.Split(10, room[:3]); errno != api.ErrRange || len(got) != 0 {
		t.Error(got, errno)
	}
	if !slices.Equal(room, before) {
		t.Error(room)
	}
}
