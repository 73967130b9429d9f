package soil

import (
	"slices"

	"draghead/api"
)

// Slump returns the highest bed that stands and is nowhere higher than the grid, and the volume that falls (P6.5).
func Slump(g api.Ground, m api.Grid) (api.Grid, int, api.Errno) {
	if e := checkBed(g, m); e != api.OK {
		return api.Grid{}, 0, e
	}
	after := slump(g, m)
	return after, fallen(m, after), api.OK
}

// Heap returns the lowest bed that stands and is nowhere lower than the grid, and the volume that is added.
func Heap(g api.Ground, m api.Grid) (api.Grid, int, api.Errno) {
	if e := checkBed(g, m); e != api.OK {
		return api.Grid{}, 0, e
	}
	// What is heaped upon a bed is what falls from it upside down.
	after := upsideDown(slump(g, upsideDown(m)))
	return after, fallen(after, m), api.OK
}

// CheckSlump accepts the bed to which a grid slumps.
func CheckSlump(g api.Ground, m, after api.Grid) api.Errno {
	if e := checkBeds(g, m, after); e != api.OK {
		return e
	}
	s := slopesOf(g, after)
	if !isLowered(m, after) || len(s.steeps()) > 0 || !s.isHeld(m) {
		return api.ErrProof
	}
	return api.OK
}

// slump lowers the higher one of two neighbours as long as there are two that differ too much.
func slump(g api.Ground, m api.Grid) api.Grid {
	s := slopesOf(g, withLevels(m, slices.Clone(m.Levels)))
	pairs := s.pairs()
	for falls := true; falls; {
		falls = false
		for _, pair := range pairs {
			most := min(s.Levels[pair[0]], s.Levels[pair[1]]) + s.allowed(pair[0], pair[1])
			for _, i := range pair {
				if s.Levels[i] > most {
					s.Levels[i] = most
					falls = true
				}
			}
		}
	}
	return s.Grid
}

// upsideDown returns the grid with all levels negated.
func upsideDown(m api.Grid) api.Grid {
	levels := slices.Clone(m.Levels)
	for i := range levels {
		if isKnown(m, i) {
			levels[i] = -levels[i]
		}
	}
	return withLevels(m, levels)
}

// fallen returns the volume between two beds; cells that are not known differ by nothing.
func fallen(before, after api.Grid) int {
	sum := 0
	for i, level := range before.Levels {
		sum += level - after.Levels[i]
	}
	return sum * area(before)
}

// isLowered reports whether the same cells are known in both beds, and none has become higher.
func isLowered(before, after api.Grid) bool {
	for i, level := range before.Levels {
		if isKnown(before, i) != isKnown(after, i) || after.Levels[i] > level {
			return false
		}
	}
	return true
}

// isHeld reports whether each cell that is lower than before has a neighbour by which it must not be higher.
func (s slopes) isHeld(before api.Grid) bool {
cells:
	for i, level := range s.Levels {
		if level == before.Levels[i] {
			continue
		}
		for _, j := range neighbours(s.Grid, i) {
			if isKnown(s.Grid, j) && level-s.Levels[j] == s.allowed(i, j) {
				continue cells
			}
		}
		return false
	}
	return true
}
