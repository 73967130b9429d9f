package channel

import (
	"draghead/api"
	"draghead/bed"
	"draghead/geometry"
)

const sidesToEnd = 2 // as many sides of a cell a passage may begin from the first axis point, and end from the last one

// Controlling returns the highest cell on the bottom (P5.7).
func Controlling(c api.Channel, g api.Grid) (int, api.Errno) {
	if e := checkBed(c, g); e != api.OK {
		return 0, e
	}
	cells := bottom(c, g)
	if len(cells) == 0 {
		return 0, api.ErrNone
	}
	for _, i := range cells {
		if !isKnown(g, i) {
			return 0, api.ErrUnknown
		}
	}
	return bed.Highest(g, cells)
}

// Draught returns the route over the bottom, from the beginning of the channel to its end, on which the highest level is the least possible one.
func Draught(c api.Channel, g api.Grid) (api.Route, api.Errno) {
	if e := checkBed(c, g); e != api.OK {
		return api.Route{}, e
	}
	cells := bottom(c, g)
	from := nearAxis(c.Axis[0], g, cells)
	to := nearAxis(c.Axis[len(c.Axis)-1], g, cells)
	if len(from) == 0 || len(to) == 0 {
		return api.Route{}, api.ErrNone
	}
	return bed.Clear(only(g, cells), from, to)
}

// bottom returns the cells on the bottom, ascending.
func bottom(c api.Channel, g api.Grid) []int {
	l := legs(c)
	var out []int
	for i, p := range centres(g) {
		if isOnBottom(l, p) {
			out = append(out, i)
		}
	}
	return out
}

// nearAxis returns those of some cells where a passage may begin or end at an axis point.
func nearAxis(a api.AxisPoint, g api.Grid, cells []int) []int {
	all := centres(g)
	var out []int
	for _, i := range cells {
		if geometry.Span(place(a), all[i]) <= sidesToEnd*g.Side {
			out = append(out, i)
		}
	}
	return out
}

// only returns the grid in which no other cells than these are known.
func only(g api.Grid, cells []int) api.Grid {
	// The grid is checked: there is no error.
	out, _ := bed.Blank(g)
	for _, i := range cells {
		out.Levels[i] = g.Levels[i]
	}
	return out
}
