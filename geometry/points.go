// Package geometry is chapter 1: points, polygons, hulls, triangulations and prisms, computed exactly.
package geometry

import (
	"cmp"

	"draghead/api"
)

// Check returns what is wrong with a list of points (P1.1).
func Check(l []api.Point) api.Errno {
	if len(l) > api.MaxNodes {
		return api.ErrLarge
	}
	if !inRange(l...) {
		return api.ErrRange
	}
	return api.OK
}

// Cross returns the cross product of three points, or 0 if one is not in range.
func Cross(a, b, c api.Point) int {
	if !inRange(a, b, c) {
		return 0
	}
	return cross(a, b, c)
}

// Orient returns 1 if a, b, c turn counterclockwise, -1 if clockwise, and 0 otherwise.
func Orient(a, b, c api.Point) int {
	return sign(Cross(a, b, c))
}

// Square returns the squared distance of two points, or 0 if one is not in range.
func Square(a, b api.Point) int {
	if !inRange(a, b) {
		return 0
	}
	return square(a, b)
}

// Span returns the least integer that is at least the distance of two points, or 0 if one is not in range.
func Span(a, b api.Point) int {
	return rootUp(Square(a, b))
}

func inRange(l ...api.Point) bool {
	for _, p := range l {
		if !within(p.X, api.MaxPlace) || !within(p.Y, api.MaxPlace) {
			return false
		}
	}
	return true
}

func within(n, most int) bool {
	return -most <= n && n <= most
}

func sign(n int) int {
	return cmp.Compare(n, 0)
}

func size(n int) int {
	return max(n, -n)
}

func cross(a, b, c api.Point) int {
	return (b.X-a.X)*(c.Y-a.Y) - (b.Y-a.Y)*(c.X-a.X)
}

// dot is the number that Along divides.
func dot(a, b, p api.Point) int {
	return (b.X-a.X)*(p.X-a.X) + (b.Y-a.Y)*(p.Y-a.Y)
}

func square(a, b api.Point) int {
	return dot(a, b, b)
}

// rootUp returns the square root of a squared distance, rounded up. No distance of points in range is greater than three times MaxPlace.
func rootUp(n int) int {
	low, high := 0, 3*api.MaxPlace
	for low < high {
		middle := (low + high) / 2
		if middle*middle < n {
			low = middle + 1
		} else {
			high = middle
		}
	}
	return low
}

// comparePoints orders points by X, then by Y.
func comparePoints(a, b api.Point) int {
	if c := cmp.Compare(a.X, b.X); c != 0 {
		return c
	}
	return cmp.Compare(a.Y, b.Y)
}
