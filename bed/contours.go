package bed

import "draghead/api"

// Contour returns the sides of the known cells with at least a level that do not border on another such cell (P4.5).
func Contour(g api.Grid, level int) ([]api.Edge, api.Errno) {
	if e := Check(g); e != api.OK {
		return nil, e
	}
	if e := checkLevel(level); e != api.OK {
		return nil, e
	}
	var all []api.Edge
	for _, i := range notBelow(g, level) {
		all = append(all, sides(g, i)...)
	}
	there := map[api.Edge]bool{}
	for _, s := range all {
		there[s] = true
	}
	var out []api.Edge
	for _, s := range all {
		// The cell on the other side has this side in the other direction.
		if !there[api.Edge{From: s.To, To: s.From}] {
			out = append(out, s)
		}
	}
	return out, api.OK
}

// notBelow returns the known cells with at least a level.
func notBelow(g api.Grid, level int) []int {
	return choose(g, func(i int) bool { return isKnown(g, i) && g.Levels[i] >= level })
}

// sides returns the sides of a cell with the cell on their left: the one below, the right one, the one above, the left one.
func sides(g api.Grid, i int) []api.Edge {
	left, below := g.X+i%g.Cols*g.Side, g.Y+i/g.Cols*g.Side
	right, above := left+g.Side, below+g.Side
	corners := []api.Point{{X: left, Y: below}, {X: right, Y: below}, {X: right, Y: above}, {X: left, Y: above}}
	var out []api.Edge
	for k, from := range corners {
		out = append(out, api.Edge{From: from, To: corners[(k+1)%len(corners)]})
	}
	return out
}
