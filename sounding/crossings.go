package sounding

import (
	"slices"

	"draghead/api"
)

// Cross returns, for each sounding of a, the sounding of b that is nearest to it, if it is within the radius (P3.4).
func Cross(a, b []api.Sounding, radius int) ([]api.Crossing, api.Errno) {
	if e := checkSheets(a, b); e != api.OK {
		return nil, e
	}
	if e := checkRadius(radius); e != api.OK {
		return nil, e
	}
	if len(b) == 0 {
		return nil, api.OK
	}
	var out []api.Crossing
	for _, s := range a {
		other := slices.MinFunc(b, nearer(placeOf(s)))
		if isClose(s, other, radius) {
			out = append(out, crossing(s, other))
		}
	}
	return out, api.OK
}

func crossing(a, b api.Sounding) api.Crossing {
	return api.Crossing{
		A:      a.Number,
		B:      b.Number,
		Square: square(a, placeOf(b)),
		Agree:  a.Lo <= b.Hi && b.Lo <= a.Hi,
	}
}
