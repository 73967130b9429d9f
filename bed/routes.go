package bed

import (
	"slices"
	"sort"

	"draghead/api"
)

// step goes to a cell from the one before; a first one comes from itself.
type step struct{ cell, before int }

// Clear returns a route from some cells to others on which the highest level is the least possible one (P4.6).
func Clear(g api.Grid, from, to []int) (api.Route, api.Errno) {
	if e := checkEnds(g, from, to); e != api.OK {
		return api.Route{}, e
	}
	levels := knownLevels(g)
	// A way that is nowhere above a level is nowhere above a higher one: the least level is found by halving.
	least := sort.Search(len(levels), func(k int) bool {
		return findWay(g, from, to, notAbove(g, levels[k])) != nil
	})
	if least == len(levels) {
		return api.Route{}, api.ErrNone
	}
	level := levels[least]
	// No way is wholly below this level, so that every one has a cell that is not.
	return api.Route{Level: level, Path: findWay(g, from, to, notAbove(g, level)), Barrier: notBelow(g, level)}, api.OK
}

// CheckClear accepts a route with its proof, for the cells from which and to which it goes.
func CheckClear(g api.Grid, q api.Way) api.Errno {
	if e := checkEnds(g, q.From, q.To); e != api.OK {
		return e
	}
	if !isWay(g, q) || highestLevel(g, q.Route.Path) != q.Route.Level || !isBarrier(g, q) {
		return api.ErrProof
	}
	return api.OK
}

// checkEnds returns what is wrong with a grid, or with the cells from which and to which ways are to go.
func checkEnds(g api.Grid, from, to []int) api.Errno {
	if e := Check(g); e != api.OK {
		return e
	}
	if len(from) == 0 || len(to) == 0 {
		return api.ErrShape
	}
	if e := checkCells(g, from); e != api.OK {
		return e
	}
	return checkCells(g, to)
}

// knownLevels returns the levels of the known cells, ascending, each one once.
func knownLevels(g api.Grid) []int {
	var out []int
	for i, level := range g.Levels {
		if isKnown(g, i) {
			out = append(out, level)
		}
	}
	slices.Sort(out)
	return slices.Compact(out)
}

// notAbove returns the function that tells the known cells with at most a level.
func notAbove(g api.Grid, level int) func(i int) bool {
	return func(i int) bool { return isKnown(g, i) && g.Levels[i] <= level }
}

// findWay returns a shortest way over open cells, or nil if there is none.
func findWay(g api.Grid, from, to []int, isOpen func(i int) bool) []int {
	isEnd := setOf(to)
	before := map[int]int{} // of each cell that has been seen
	last, found := 0, false
	steps := firstSteps(from)
search:
	for len(steps) > 0 {
		var further []step
		for _, s := range steps {
			if _, seen := before[s.cell]; seen || !isOpen(s.cell) {
				continue
			}
			before[s.cell] = s.before
			if isEnd[s.cell] {
				last, found = s.cell, true
				break search
			}
			for _, next := range neighbours(g, s.cell) {
				further = append(further, step{next, s.cell})
			}
		}
		steps = further
	}
	if !found {
		return nil
	}
	return wayTo(last, before)
}

func firstSteps(from []int) []step {
	var out []step
	for _, i := range from {
		out = append(out, step{i, i})
	}
	return out
}

// wayTo returns the way to a cell, given the cell before each one.
func wayTo(last int, before map[int]int) []int {
	out := []int{last}
	for i := last; before[i] != i; i = before[i] {
		out = append(out, before[i])
	}
	slices.Reverse(out)
	return out
}

func setOf(cells []int) map[int]bool {
	out := map[int]bool{}
	for _, i := range cells {
		out[i] = true
	}
	return out
}

// isWay reports whether the path of a route is a way from and to its cells.
func isWay(g api.Grid, q api.Way) bool {
	path := q.Route.Path
	if len(path) == 0 || !slices.Contains(q.From, path[0]) || !slices.Contains(q.To, path[len(path)-1]) {
		return false
	}
	for k, i := range path {
		if !isCell(g, i) || !isKnown(g, i) || k > 0 && !areNeighbours(g, path[k-1], i) {
			return false
		}
	}
	return true
}

// highestLevel returns the highest level on a way.
func highestLevel(g api.Grid, path []int) int {
	out := -api.MaxLevel
	for _, i := range path {
		out = max(out, g.Levels[i])
	}
	return out
}

// isBarrier reports whether the cells of the barrier are known and not lower than the route, and no way goes past them.
func isBarrier(g api.Grid, q api.Way) bool {
	for _, i := range q.Route.Barrier {
		if !isCell(g, i) || !isKnown(g, i) || g.Levels[i] < q.Route.Level {
			return false
		}
	}
	closed := setOf(q.Route.Barrier)
	return findWay(g, q.From, q.To, func(i int) bool { return isKnown(g, i) && !closed[i] }) == nil
}
