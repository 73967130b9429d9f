package bed

import (
	"draghead/api"
	"draghead/geometry"
)

const mostSteps = 200 // of a profile

// Cell returns the cell that contains a place (P4.2).
func Cell(g api.Grid, p api.Point) (int, api.Errno) {
	if e := Check(g); e != api.OK {
		return 0, e
	}
	i, is := cellAt(g, p)
	if !is {
		return 0, api.ErrNone
	}
	return i, api.OK
}

// Centre returns the centre of a cell.
func Centre(g api.Grid, i int) (api.Point, api.Errno) {
	if e := checkCell(g, i); e != api.OK {
		return api.Point{}, e
	}
	return centre(g, i), api.OK
}

// Near returns the neighbours of a cell, ascending.
func Near(g api.Grid, i int) ([]int, api.Errno) {
	if e := checkCell(g, i); e != api.OK {
		return nil, e
	}
	return neighbours(g, i), api.OK
}

// Level returns the level of the cell that contains a place.
func Level(g api.Grid, p api.Point) (int, api.Errno) {
	i, e := Cell(g, p)
	if e != api.OK {
		return 0, e
	}
	if !isKnown(g, i) {
		return 0, api.ErrUnknown
	}
	return g.Levels[i], api.OK
}

// Within returns the cells whose centre is inside of a polygon or on its border, ascending.
func Within(g api.Grid, corners []api.Point) ([]int, api.Errno) {
	if e := Check(g); e != api.OK {
		return nil, e
	}
	if e := geometry.CheckPolygon(corners); e != api.OK {
		return nil, e
	}
	return choose(g, func(i int) bool {
		// The polygon is checked, and no centre is out of range: there is no error.
		where, _ := geometry.Inside(corners, centre(g, i))
		return where >= 0
	}), api.OK
}

// Highest returns the known one of some cells with the highest level, of several ones that with the least index.
func Highest(g api.Grid, cells []int) (int, api.Errno) {
	if e := Check(g); e != api.OK {
		return 0, e
	}
	if e := checkCells(g, cells); e != api.OK {
		return 0, e
	}
	top, found := 0, false
	for _, i := range cells {
		if isKnown(g, i) && (!found || isHigher(g, i, top)) {
			top, found = i, true
		}
	}
	if !found {
		return 0, api.ErrUnknown
	}
	return top, api.OK
}

// Profile returns the levels at n + 1 places from one place to another.
func Profile(g api.Grid, from, to api.Point, n int) ([]int, api.Errno) {
	if e := Check(g); e != api.OK {
		return nil, e
	}
	if !isPlace(from.X, from.Y) || !isPlace(to.X, to.Y) || !within(n, 1, mostSteps) {
		return nil, api.ErrRange
	}
	out := make([]int, n+1)
	for k := range out {
		p := api.Point{X: partWay(from.X, to.X, k, n), Y: partWay(from.Y, to.Y, k, n)}
		out[k] = levelAt(g, p)
	}
	return out, api.OK
}

// checkCell returns what is wrong with a grid, or with the number of a cell.
func checkCell(g api.Grid, i int) api.Errno {
	if e := Check(g); e != api.OK {
		return e
	}
	if !isCell(g, i) {
		return api.ErrMissing
	}
	return api.OK
}

func checkCells(g api.Grid, cells []int) api.Errno {
	for _, i := range cells {
		if !isCell(g, i) {
			return api.ErrMissing
		}
	}
	return api.OK
}

// cellAt returns the cell that contains a place, and whether there is one.
func cellAt(g api.Grid, p api.Point) (int, bool) {
	// Compared before it is subtracted, for p may be any place.
	if !within(p.X, g.X, g.X+g.Cols*g.Side-1) || !within(p.Y, g.Y, g.Y+g.Rows*g.Side-1) {
		return 0, false
	}
	return (p.Y-g.Y)/g.Side*g.Cols + (p.X-g.X)/g.Side, true
}

// levelAt returns the level at a place; Unknown where there is no cell.
func levelAt(g api.Grid, p api.Point) int {
	i, is := cellAt(g, p)
	if !is {
		return api.Unknown
	}
	return g.Levels[i]
}

func centre(g api.Grid, i int) api.Point {
	col, row := i%g.Cols, i/g.Cols
	return api.Point{X: g.X + col*g.Side + g.Side/2, Y: g.Y + row*g.Side + g.Side/2}
}

// isHigher reports whether the known cell i goes before the known cell j.
func isHigher(g api.Grid, i, j int) bool {
	return g.Levels[i] > g.Levels[j] || g.Levels[i] == g.Levels[j] && i < j
}

// partWay returns the number that is k of n equal parts of the way from a to b, rounded down.
func partWay(a, b, k, n int) int {
	return a + divideDown((b-a)*k, n)
}

// divideDown divides by a positive number; the division of the language rounds towards 0.
func divideDown(n, by int) int {
	q := n / by
	if n%by < 0 {
		q--
	}
	return q
}
