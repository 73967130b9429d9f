// Package bed is chapter 4: grids of levels, the comparison of surveys, ways over a bed, and triangulated beds.
package bed

import (
	"slices"

	"draghead/api"
)

const (
	leastSide = 100 // centimetres
	mostSide  = 10000
)

// frame is the cells of a grid, whatever their levels.
type frame struct {
	corner           api.Point
	side, cols, rows int
}

// Check returns what is wrong with a grid (P4.1).
func Check(g api.Grid) api.Errno {
	if !isPlace(g.X, g.Y) || !within(g.Side, leastSide, mostSide) || !within(g.Cols, 1, api.MaxCells) || !within(g.Rows, 1, api.MaxCells) {
		return api.ErrRange
	}
	if g.Cols*g.Rows > api.MaxCells {
		return api.ErrLarge
	}
	if g.X+g.Cols*g.Side > api.MaxPlace || g.Y+g.Rows*g.Side > api.MaxPlace {
		return api.ErrRange
	}
	if len(g.Levels) != g.Cols*g.Rows {
		return api.ErrShape
	}
	for _, level := range g.Levels {
		if level != api.Unknown && !isLevel(level) {
			return api.ErrRange
		}
	}
	return api.OK
}

// Blank returns the grid with the same cells, all unknown.
func Blank(g api.Grid) (api.Grid, api.Errno) {
	if e := Check(g); e != api.OK {
		return api.Grid{}, e
	}
	return withLevels(g, func(int) int { return api.Unknown }), api.OK
}

// withLevels returns the grid with the cells of g that has in each of them the level that is asked for it.
func withLevels(g api.Grid, level func(i int) int) api.Grid {
	out := g
	out.Levels = make([]int, len(g.Levels))
	for i := range out.Levels {
		out.Levels[i] = level(i)
	}
	return out
}

// checkTwo returns what is wrong with two grids that are to have the same cells.
func checkTwo(a, b api.Grid) api.Errno {
	if e := Check(a); e != api.OK {
		return e
	}
	if e := Check(b); e != api.OK {
		return e
	}
	if frameOf(a) != frameOf(b) {
		return api.ErrShape
	}
	return api.OK
}

func frameOf(g api.Grid) frame {
	return frame{api.Point{X: g.X, Y: g.Y}, g.Side, g.Cols, g.Rows}
}

func checkLevel(level int) api.Errno {
	if !isLevel(level) {
		return api.ErrRange
	}
	return api.OK
}

func isLevel(level int) bool {
	return within(level, -api.MaxLevel, api.MaxLevel)
}

func isPlace(x, y int) bool {
	return within(x, -api.MaxPlace, api.MaxPlace) && within(y, -api.MaxPlace, api.MaxPlace)
}

func within(n, least, most int) bool {
	return least <= n && n <= most
}

func isCell(g api.Grid, i int) bool {
	return within(i, 0, len(g.Levels)-1)
}

// isKnown reports whether somebody has sounded a cell of the grid.
func isKnown(g api.Grid, i int) bool {
	return g.Levels[i] != api.Unknown
}

// area is the area of each cell.
func area(g api.Grid) int {
	return g.Side * g.Side
}

// choose returns the cells that are wanted, ascending.
func choose(g api.Grid, isWanted func(i int) bool) []int {
	var out []int
	for i := range g.Levels {
		if isWanted(i) {
			out = append(out, i)
		}
	}
	return out
}

// neighbours returns the cells that have a side in common with a cell, ascending.
func neighbours(g api.Grid, i int) []int {
	var out []int
	col, row := i%g.Cols, i/g.Cols
	if row > 0 {
		out = append(out, i-g.Cols)
	}
	if col > 0 {
		out = append(out, i-1)
	}
	if col < g.Cols-1 {
		out = append(out, i+1)
	}
	if row < g.Rows-1 {
		out = append(out, i+g.Cols)
	}
	return out
}

func areNeighbours(g api.Grid, i, j int) bool {
	return slices.Contains(neighbours(g, i), j)
}
