// Package sounding is chapter 3: raw soundings that are reduced to chart datum, spikes, and sheets that are compared, thinned without losing a shoal, and put on a grid.
package sounding

import (
	"draghead/api"
	"draghead/tide"
)

const mostError = 1000 // centimetres by which a raw sounding may be wrong

// CheckRaws returns what is wrong with a list of raw soundings (P3.1).
func CheckRaws(l []api.Raw) api.Errno {
	return checkList(l, isRaw, func(r api.Raw) int { return r.Number })
}

// Reduce returns the sounding that a raw one is reduced to.
func Reduce(g []api.Gauge, r api.Raw) (api.Sounding, api.Errno) {
	if !isRaw(r) {
		return api.Sounding{}, api.ErrRange
	}
	water, e := tide.Level(g, r.X, r.Minute)
	if e != api.OK {
		return api.Sounding{}, e
	}
	below := r.Draught + r.Depth
	return api.Sounding{
		Number: r.Number,
		X:      r.X,
		Y:      r.Y,
		Lo:     water.Lo - below - r.Error,
		Hi:     water.Hi - below + r.Error,
	}, api.OK
}

// ReduceAll returns the reduced soundings, and the numbers of those for which the water level is unknown.
func ReduceAll(g []api.Gauge, l []api.Raw) ([]api.Sounding, []int, api.Errno) {
	if e := CheckRaws(l); e != api.OK {
		return nil, nil, e
	}
	if e := tide.CheckGauges(g); e != api.OK {
		return nil, nil, e
	}
	var out []api.Sounding
	var others []int
	for _, r := range l {
		// Of checked gauges and raw soundings there is no error but that the water level is unknown.
		if s, e := Reduce(g, r); e == api.OK {
			out = append(out, s)
		} else {
			others = append(others, r.Number)
		}
	}
	return out, others, api.OK
}

func isRaw(r api.Raw) bool {
	return isNumber(r.Number) &&
		within(r.Minute, 0, api.MaxMinute) &&
		isPlace(r.X, r.Y) &&
		within(r.Depth, 0, api.MaxLevel) &&
		within(r.Draught, 0, api.MaxLevel) &&
		within(r.Error, 0, mostError)
}
