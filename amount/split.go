package amount

import (
	"cmp"
	"slices"

	"usance/api"
)

const (
	mostWeights = 1024
	mostWeight  = 1000000000
)

// Split answers shares of total by the weights, whose sum is total.
func Split(total int64, weights []int64) ([]int64, api.Errno) {
	if len(weights) == 0 || len(weights) > mostWeights {
		return nil, api.ErrLong
	}
	sum, ok := weigh(weights)
	if !ok || !isMoney(total) {
		return nil, api.ErrRange
	}
	shares := share(size(total), weights, sum)
	if total < 0 {
		for i := range shares {
			shares[i] = -shares[i]
		}
	}
	return shares, api.OK
}

// weigh answers the sum of the weights; false, if they can't be shared by.
func weigh(weights []int64) (uint64, bool) {
	var sum uint64
	for _, weight := range weights {
		if weight < 0 || weight > mostWeight {
			return 0, false
		}
		sum += uint64(weight)
	}
	return sum, sum > 0
}

func share(total uint64, weights []int64, sum uint64) []int64 {
	shares := make([]int64, len(weights))
	rests := make([]uint64, len(weights))
	left := total
	for i, weight := range weights {
		// No weight is above the sum, so that no share is above the total: it fits.
		part, rest, _ := times(total, uint64(weight)).over(sum)
		shares[i], rests[i] = int64(part), rest
		left -= part
	}
	// The rests make left times the sum, and each is below the sum: left is less than how many there are.
	for _, i := range greatestFirst(rests)[:left] {
		shares[i]++
	}
	return shares
}

// greatestFirst answers the places of the rests; those of equal ones stand as they stood.
func greatestFirst(rests []uint64) []int {
	places := make([]int, len(rests))
	for i := range places {
		places[i] = i
	}
	slices.SortStableFunc(places, func(i, j int) int {
		return cmp.Compare(rests[j], rests[i])
	})
	return places
}
