package sounding

import (
	"slices"

	"draghead/api"
)

const (
	leastSide = 100 // centimetres
	mostSide  = 10000
)

// Bin returns the grid whose cells have the greatest Hi of the soundings in them (P3.6).
func Bin(l []api.Sounding, g api.Grid) (api.Grid, api.Errno) {
	return highest(l, g, func(s api.Sounding) int { return s.Hi })
}

// Floor returns the grid whose cells have the greatest Lo of the soundings in them.
func Floor(l []api.Sounding, g api.Grid) (api.Grid, api.Errno) {
	return highest(l, g, func(s api.Sounding) int { return s.Lo })
}

// Count returns how many soundings are in each cell.
func Count(l []api.Sounding, g api.Grid) ([]int, api.Errno) {
	if e := checkToBin(l, g); e != api.OK {
		return nil, e
	}
	out := make([]int, g.Cols*g.Rows)
	for _, s := range l {
		if cell, is := cellOf(g, s); is {
			out[cell]++
		}
	}
	return out, api.OK
}

// highest returns the grid whose cells have the greatest level of the soundings in them.
func highest(l []api.Sounding, g api.Grid, level func(api.Sounding) int) (api.Grid, api.Errno) {
	if e := checkToBin(l, g); e != api.OK {
		return api.Grid{}, e
	}
	tops := map[int]int{}
	for _, s := range l {
		cell, is := cellOf(g, s)
		if !is {
			continue
		}
		if top, known := tops[cell]; !known || top < level(s) {
			tops[cell] = level(s)
		}
	}
	levels := slices.Repeat([]int{api.Unknown}, g.Cols*g.Rows)
	for cell, top := range tops {
		if !within(top, -api.MaxLevel, api.MaxLevel) {
			return api.Grid{}, api.ErrRange
		}
		levels[cell] = top
	}
	g.Levels = levels
	return g, api.OK
}

func checkToBin(l []api.Sounding, g api.Grid) api.Errno {
	if e := Check(l); e != api.OK {
		return e
	}
	return checkCells(g)
}

// checkCells returns what is wrong with the cells of a grid, whatever their levels.
func checkCells(g api.Grid) api.Errno {
	if !isPlace(g.X, g.Y) || !within(g.Side, leastSide, mostSide) || g.Cols < 1 || g.Rows < 1 {
		return api.ErrRange
	}
	// Divided, for the product may overflow.
	if g.Cols > api.MaxCells/g.Rows {
		return api.ErrLarge
	}
	return api.OK
}

// cellOf returns the index of the cell in which a sounding is, and whether there is one.
func cellOf(g api.Grid, s api.Sounding) (int, bool) {
	x, y := s.X-g.X, s.Y-g.Y
	if !within(x, 0, g.Cols*g.Side-1) || !within(y, 0, g.Rows*g.Side-1) {
		return 0, false
	}
	return y/g.Side*g.Cols + x/g.Side, true
}
