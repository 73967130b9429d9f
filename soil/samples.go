package soil

import (
	"draghead/api"
	"draghead/geometry"
)

const mostValue = 1000000000

// CheckSamples returns what is wrong with a list of samples (P6.8).
func CheckSamples(l []api.Sample) api.Errno {
	if len(l) > api.MaxSamples {
		return api.ErrLarge
	}
	return checkNamed(l, func(s api.Sample) []string { return []string{s.Name, s.Substance} }, checkSample)
}

// Chosen returns the samples at places of a polygon that have a part between two levels.
func Chosen(l []api.Sample, corners []api.Point, top, bottom int) ([]api.Sample, api.Errno) {
	if e := checkChoice(l, corners, top, bottom); e != api.OK {
		return nil, e
	}
	var out []api.Sample
	for _, s := range l {
		// The polygon and the place are checked: there is no error.
		where, _ := geometry.Inside(corners, placeOf(s))
		if where >= 0 && s.Bottom < top && s.Top > bottom {
			out = append(out, s)
		}
	}
	return out, api.OK
}

// checkSample returns what is wrong with a sample beside its names.
func checkSample(s api.Sample) api.Errno {
	if !isPlace(placeOf(s)) || !isLevel(s.Top) || !isLevel(s.Bottom) || !isValue(s.Value) {
		return api.ErrRange
	}
	if s.Top <= s.Bottom {
		return api.ErrOrder
	}
	return api.OK
}

func checkChoice(l []api.Sample, corners []api.Point, top, bottom int) api.Errno {
	if e := CheckSamples(l); e != api.OK {
		return e
	}
	if e := geometry.CheckPolygon(corners); e != api.OK {
		return e
	}
	if !isLevel(top) || !isLevel(bottom) {
		return api.ErrRange
	}
	if top <= bottom {
		return api.ErrOrder
	}
	return api.OK
}

func placeOf(s api.Sample) api.Point {
	return api.Point{X: s.X, Y: s.Y}
}

func isValue(n int) bool {
	return within(n, 0, mostValue)
}
