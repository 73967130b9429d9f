package soil

import (
	"draghead/api"
	"draghead/bed"
)

// checkBed returns what is wrong with a ground, or with a grid on it.
func checkBed(g api.Ground, m api.Grid) api.Errno {
	if e := CheckGround(g); e != api.OK {
		return e
	}
	return bed.Check(m)
}

// checkBeds returns what is wrong with a ground, or with two grids that are to have the same cells.
func checkBeds(g api.Ground, before, after api.Grid) api.Errno {
	if e := CheckGround(g); e != api.OK {
		return e
	}
	_, e := bed.Compare(before, after)
	return e
}

// centres returns the centres of the cells of a grid without errors.
func centres(m api.Grid) []api.Point {
	// The grid is checked, and each one has this cell: there is no error.
	first, _ := bed.Centre(m, 0)
	out := make([]api.Point, len(m.Levels))
	for i := range out {
		out[i] = api.Point{X: first.X + i%m.Cols*m.Side, Y: first.Y + i/m.Cols*m.Side}
	}
	return out
}

func withLevels(m api.Grid, levels []int) api.Grid {
	m.Levels = levels
	return m
}

func isCell(m api.Grid, i int) bool {
	return within(i, 0, len(m.Levels)-1)
}

// isKnown reports whether somebody has sounded a cell of the grid.
func isKnown(m api.Grid, i int) bool {
	return m.Levels[i] != api.Unknown
}

// area is the area of each cell.
func area(m api.Grid) int {
	return m.Side * m.Side
}
