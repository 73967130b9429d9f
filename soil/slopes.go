package soil

import (
	"slices"

	"draghead/api"
	"draghead/bed"
)

const tenths = 10 // of a run

// slopes is a grid with, for each cell, the run of the softest soil in its boring.
type slopes struct {
	api.Grid
	runs []int
}

// Allowed returns by how much the levels of two neighbouring cells may differ (P6.4).
func Allowed(g api.Ground, m api.Grid, a, b int) (int, api.Errno) {
	if e := checkBed(g, m); e != api.OK {
		return 0, e
	}
	if !isCell(m, a) || !isCell(m, b) {
		return 0, api.ErrMissing
	}
	if !slices.Contains(neighbours(m, a), b) {
		return 0, api.ErrForm
	}
	return slopesOf(g, m).allowed(a, b), api.OK
}

// Steeps returns the pairs of neighbouring known cells that differ by more than is allowed.
func Steeps(g api.Ground, m api.Grid) ([]api.Steep, api.Errno) {
	if e := checkBed(g, m); e != api.OK {
		return nil, e
	}
	return slopesOf(g, m).steeps(), api.OK
}

// slopesOf lays a grid without errors on a ground without errors.
func slopesOf(g api.Ground, m api.Grid) slopes {
	var softest []int
	for _, b := range g.Borings {
		softest = append(softest, softestRun(g.Soils, b.Layers))
	}
	out := slopes{Grid: m}
	for _, p := range centres(m) {
		out.runs = append(out.runs, softest[nearest(g, p)])
	}
	return out
}

func softestRun(soils []api.Soil, l []api.Layer) int {
	out := 0
	for _, s := range soils {
		if slices.ContainsFunc(l, func(layer api.Layer) bool { return layer.Soil == s.Name }) {
			out = max(out, s.Run)
		}
	}
	return out
}

// allowed returns by how much two neighbouring cells may differ.
func (s slopes) allowed(a, b int) int {
	return tenths * s.Side / max(s.runs[a], s.runs[b])
}

func (s slopes) steeps() []api.Steep {
	var out []api.Steep
	for _, pair := range s.pairs() {
		high, low := pair[0], pair[1]
		if s.Levels[low] > s.Levels[high] {
			high, low = low, high
		}
		if over := s.Levels[high] - s.Levels[low] - s.allowed(high, low); over > 0 {
			out = append(out, api.Steep{High: high, Low: low, Over: over})
		}
	}
	return out
}

// pairs returns each two neighbouring known cells, the lesser one first, ordered by this one, then by the greater one.
func (s slopes) pairs() [][2]int {
	var out [][2]int
	for a := range s.Levels {
		if right := a + 1; right%s.Cols != 0 && s.bothKnown(a, right) {
			out = append(out, [2]int{a, right})
		}
		if above := a + s.Cols; above < len(s.Levels) && s.bothKnown(a, above) {
			out = append(out, [2]int{a, above})
		}
	}
	return out
}

func (s slopes) bothKnown(a, b int) bool {
	return isKnown(s.Grid, a) && isKnown(s.Grid, b)
}

// neighbours returns the cells that have a side in common with a cell of the grid.
func neighbours(m api.Grid, i int) []int {
	// The grid is checked, and it has this cell: there is no error.
	out, _ := bed.Near(m, i)
	return out
}
