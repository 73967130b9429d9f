package channel

import (
	"draghead/api"
	"draghead/bed"
)

// DesignGrid returns the grid with the same cells and the design levels, Unknown where there is none (P5.3).
func DesignGrid(c api.Channel, g api.Grid) (api.Grid, api.Errno) {
	if e := checkBed(c, g); e != api.OK {
		return api.Grid{}, e
	}
	return withLevels(g, designs(c, g)), api.OK
}

// ToleranceGrid returns the grid with the same cells and the tolerance levels.
func ToleranceGrid(c api.Channel, g api.Grid) (api.Grid, api.Errno) {
	if e := checkBed(c, g); e != api.OK {
		return api.Grid{}, e
	}
	levels := designs(c, g)
	for i, level := range levels {
		if level != none {
			levels[i] = level - c.Over
		}
	}
	return withLevels(g, levels), api.OK
}

// checkBed returns what is wrong with a channel, or with a grid that it is laid over.
func checkBed(c api.Channel, g api.Grid) api.Errno {
	if e := Check(c); e != api.OK {
		return e
	}
	return bed.Check(g)
}

// checkBeds returns what is wrong with a channel, or with two grids that are to have the same cells.
func checkBeds(c api.Channel, before, after api.Grid) api.Errno {
	if e := Check(c); e != api.OK {
		return e
	}
	_, e := bed.Compare(before, after)
	return e
}

// designs returns the design levels of the cells of a grid.
func designs(c api.Channel, g api.Grid) []int {
	l := legs(c)
	out := make([]int, len(g.Levels))
	for i, p := range centres(g) {
		out[i] = designAt(l, p)
	}
	return out
}

// centres returns the centres of the cells of a grid without errors.
func centres(g api.Grid) []api.Point {
	out := make([]api.Point, len(g.Levels))
	for i := range out {
		// The grid is checked, and it has this cell: there is no error.
		out[i], _ = bed.Centre(g, i)
	}
	return out
}

func withLevels(g api.Grid, levels []int) api.Grid {
	g.Levels = levels
	return g
}

// isKnown reports whether somebody has sounded a cell of the grid.
func isKnown(g api.Grid, i int) bool {
	return g.Levels[i] != api.Unknown
}
