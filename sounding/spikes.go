package sounding

import (
	"slices"

	"draghead/api"
)

const (
	mostCount = 25     // nearest soundings that decide about a spike
	mostLimit = 200000 // centimetres
)

// Spikes returns the numbers of the spikes of a sheet (P3.3).
func Spikes(l []api.Sounding, s api.Spike) ([]int, api.Errno) {
	if e := Check(l); e != api.OK {
		return nil, e
	}
	if !within(s.Count, 1, mostCount) || !within(s.Limit, 0, mostLimit) {
		return nil, api.ErrRange
	}
	if s.Count > len(l)-1 {
		return nil, api.OK
	}
	var out []int
	for _, x := range l {
		off := middle(x) - medianAround(l, x, s.Count)
		if max(off, -off) > s.Limit {
			out = append(out, x.Number)
		}
	}
	return out, api.OK
}

// medianAround returns the median of the middles of those other soundings that are nearest to x.
func medianAround(l []api.Sounding, x api.Sounding, count int) int {
	others := choose(l, func(s api.Sounding) bool { return s.Number != x.Number })
	var middles []int
	for _, s := range nearest(others, placeOf(x), count) {
		middles = append(middles, middle(s))
	}
	slices.Sort(middles)
	return middles[(count+1)/2-1]
}

// middle returns the middle of a sounding, rounded down, which division in Go does not do for negative numbers, but a shift does.
func middle(s api.Sounding) int {
	return (s.Lo + s.Hi) >> 1
}
