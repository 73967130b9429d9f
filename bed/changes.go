package bed

import "draghead/api"

const mostLevels = 20 // between layers

// Latest returns b with the levels of a where b is not known (P4.3).
func Latest(a, b api.Grid) (api.Grid, api.Errno) {
	return join(a, b, func(earlier, later int) int { return later })
}

// Shoalest returns the higher level where both grids are known, and the known one where one is.
func Shoalest(a, b api.Grid) (api.Grid, api.Errno) {
	return join(a, b, func(one, other int) int { return max(one, other) })
}

// Compare returns the change over all cells (P4.4).
func Compare(before, after api.Grid) (api.Change, api.Errno) {
	if e := checkTwo(before, after); e != api.OK {
		return api.Change{}, e
	}
	return changeOver(before, after, 0, 1), api.OK
}

// Strips returns the change of each column.
func Strips(before, after api.Grid) ([]api.Change, api.Errno) {
	if e := checkTwo(before, after); e != api.OK {
		return nil, e
	}
	out := make([]api.Change, before.Cols)
	for col := range out {
		out[col] = changeOver(before, after, col, before.Cols)
	}
	return out, api.OK
}

// Slices returns the changes of the layers that the levels make.
func Slices(before, after api.Grid, levels []int) ([]api.Change, api.Errno) {
	if e := checkTwo(before, after); e != api.OK {
		return nil, e
	}
	if e := checkLevels(levels); e != api.OK {
		return nil, e
	}
	var out []api.Change
	low := -api.MaxLevel
	for _, high := range levels {
		out = append(out, changeOfLayer(before, after, low, high))
		low = high
	}
	return append(out, changeOfLayer(before, after, low, api.MaxLevel)), api.OK
}

// Above returns the volume of the bed above a level, and how many cells are higher.
func Above(g api.Grid, level int) (volume, cells int, e api.Errno) {
	if e := Check(g); e != api.OK {
		return 0, 0, e
	}
	if e := checkLevel(level); e != api.OK {
		return 0, 0, e
	}
	for i, height := range g.Levels {
		if isKnown(g, i) && height > level {
			volume += area(g) * (height - level)
			cells++
		}
	}
	return volume, cells, api.OK
}

// join returns the grid that has both grids' known levels; where both are known, both chooses.
func join(a, b api.Grid, both func(one, other int) int) (api.Grid, api.Errno) {
	if e := checkTwo(a, b); e != api.OK {
		return api.Grid{}, e
	}
	return withLevels(a, func(i int) int {
		switch {
		case !isKnown(a, i):
			return b.Levels[i]
		case !isKnown(b, i):
			return a.Levels[i]
		}
		return both(a.Levels[i], b.Levels[i])
	}), api.OK
}

func checkLevels(levels []int) api.Errno {
	if len(levels) > mostLevels {
		return api.ErrLarge
	}
	for k, level := range levels {
		if e := checkLevel(level); e != api.OK {
			return e
		}
		if k > 0 && level <= levels[k-1] {
			return api.ErrOrder
		}
	}
	return api.OK
}

// changeOver returns the change over the cell first, and over each one that is a step further.
func changeOver(before, after api.Grid, first, step int) api.Change {
	var out api.Change
	for i := first; i < len(before.Levels); i += step {
		if !isKnown(before, i) || !isKnown(after, i) {
			out.Unknown++
			continue
		}
		volume := area(before) * (after.Levels[i] - before.Levels[i])
		out.Cut += max(-volume, 0)
		out.Fill += max(volume, 0)
	}
	return out
}

// changeOfLayer compares the beds with their levels moved into the layer: of a difference the part in the layer stays.
func changeOfLayer(before, after api.Grid, low, high int) api.Change {
	out := changeOver(moveInto(before, low, high), moveInto(after, low, high), 0, 1)
	out.Unknown = 0
	return out
}

func moveInto(g api.Grid, low, high int) api.Grid {
	return withLevels(g, func(i int) int {
		if !isKnown(g, i) {
			return api.Unknown
		}
		return min(max(g.Levels[i], low), high)
	})
}
