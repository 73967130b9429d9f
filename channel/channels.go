// Package channel is chapter 5: the design of a channel, volumes above it, protected cells, and the passage through it.
package channel

import (
	"slices"

	"draghead/api"
	"draghead/geometry"
)

const (
	mostOver   = 1000 // centimetres
	mostBuffer = 100000
	leastAxis  = 2 // axis points
	mostHalf   = 100000
	mostRun    = 1000
)

// Check returns what is wrong with a channel (P5.1).
func Check(c api.Channel) api.Errno {
	if !isName(c.Name) {
		return api.ErrName
	}
	if !within(c.Over, 0, mostOver) || !within(c.Buffer, 0, mostBuffer) {
		return api.ErrRange
	}
	if e := checkAxis(c); e != api.OK {
		return e
	}
	return checkRegions(c.Regions)
}

// Length returns the sum of the spans of the legs.
func Length(c api.Channel) (int, api.Errno) {
	if e := Check(c); e != api.OK {
		return 0, e
	}
	return length(legs(c)), api.OK
}

// checkAxis relies on the allowance being in range.
func checkAxis(c api.Channel) api.Errno {
	if len(c.Axis) < leastAxis {
		return api.ErrShape
	}
	if len(c.Axis) > api.MaxAxis {
		return api.ErrLarge
	}
	for i, a := range c.Axis {
		if !isAxisPoint(a, c.Over) {
			return api.ErrRange
		}
		if i > 0 && place(a) == place(c.Axis[i-1]) {
			return api.ErrExists
		}
	}
	return api.OK
}

func isAxisPoint(a api.AxisPoint, over int) bool {
	return isPlace(place(a)) && within(a.Half, 1, mostHalf) && within(a.Level, -api.MaxLevel+over, api.MaxLevel) && within(a.Run, 0, mostRun)
}

func checkRegions(l []api.Region) api.Errno {
	if len(l) > api.MaxRegions {
		return api.ErrLarge
	}
	for i, r := range l {
		if e := checkRegion(l[:i], r); e != api.OK {
			return e
		}
	}
	return api.OK
}

// checkRegion returns what is wrong with a region that stands in a list behind others.
func checkRegion(before []api.Region, r api.Region) api.Errno {
	if !isName(r.Name) {
		return api.ErrName
	}
	if slices.ContainsFunc(before, func(b api.Region) bool { return b.Name == r.Name }) {
		return api.ErrExists
	}
	if !within(r.Kind, api.RegionSection, api.RegionReserve) {
		return api.ErrRange
	}
	return geometry.CheckPolygon(r.Corners)
}

// isPlace reports whether a point is in range.
func isPlace(p api.Point) bool {
	return geometry.Check([]api.Point{p}) == api.OK
}

func within(n, least, most int) bool {
	return least <= n && n <= most
}

func isName(s string) bool {
	if len(s) == 0 || len(s) > api.MaxName || !isLetter(s[0]) {
		return false
	}
	for i := range len(s) {
		if c := s[i]; !isLetter(c) && !isDigit(c) && c != '-' {
			return false
		}
	}
	return true
}

func isLetter(c byte) bool {
	return 'A' <= c && c <= 'Z' || 'a' <= c && c <= 'z'
}

func isDigit(c byte) bool {
	return '0' <= c && c <= '9'
}
