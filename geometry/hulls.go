package geometry

import (
	"slices"

	"draghead/api"
)

// Hull returns the corners of the convex hull, counterclockwise from the first one on (P1.5).
func Hull(l []api.Point) ([]api.Point, api.Errno) {
	if e := Check(l); e != api.OK {
		return nil, e
	}
	return hull(l), api.OK
}

func hull(l []api.Point) []api.Point {
	sorted := slices.Clone(l)
	slices.SortFunc(sorted, comparePoints)
	sorted = slices.Compact(sorted)
	if len(sorted) < 2 {
		return sorted
	}
	lower := chain(sorted)
	slices.Reverse(sorted)
	upper := chain(sorted)
	// Each chain ends where the other one begins.
	return append(lower[:len(lower)-1], upper[:len(upper)-1]...)
}

// chain drops the points of a sorted list at which its way does not turn to the left.
func chain(l []api.Point) []api.Point {
	var out []api.Point
	for _, p := range l {
		for len(out) > 1 && cross(out[len(out)-2], out[len(out)-1], p) <= 0 {
			out = out[:len(out)-1]
		}
		out = append(out, p)
	}
	return out
}
