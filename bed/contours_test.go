package bed_test

import (
	"math"
	"testing"

	"draghead/api"
	"draghead/bed"
)

// edges makes a list of sides of their four coordinates each.
func edges(l ...[4]int) []api.Edge {
	var out []api.Edge
	for _, c := range l {
		out = append(out, api.Edge{From: at(c[0], c[1]), To: at(c[2], c[3])})
	}
	return out
}

func TestP45Contour(t *testing.T) {
	cross := with(frame(0, 0, 100, 3, 3), u, 1, u, 1, 5, 1, u, 1, u)
	// Two cells that have only a corner in common do not border on each other.
	corner := with(frame(0, 0, 100, 2, 2), 1, 0, 0, 1)
	for _, c := range []struct {
		g     api.Grid
		level int
		want  []api.Edge
	}{
		{example(), -400, edges([4]int{100, 0, 200, 0}, [4]int{200, 100, 100, 100}, [4]int{100, 100, 100, 0}, [4]int{200, 0, 300, 0}, [4]int{300, 0, 300, 100}, [4]int{300, 100, 200, 100})},
		{example(), -399, edges([4]int{100, 0, 200, 0}, [4]int{200, 0, 200, 100}, [4]int{200, 100, 100, 100}, [4]int{100, 100, 100, 0})},
		{example(), -300, edges([4]int{100, 0, 200, 0}, [4]int{200, 0, 200, 100}, [4]int{200, 100, 100, 100}, [4]int{100, 100, 100, 0})},
		{example(), -299, nil},
		{example(), highest, nil}, // an unknown cell is not high
		{flat(example(), u), -highest, nil},
		{flat(frame(-7, -9, 103, 1, 1), -highest), -highest, edges([4]int{-7, -9, 96, -9}, [4]int{96, -9, 96, 94}, [4]int{96, 94, -7, 94}, [4]int{-7, 94, -7, -9})},
		{flat(frame(0, 0, 100, 2, 1), 0), 0, edges([4]int{0, 0, 100, 0}, [4]int{100, 100, 0, 100}, [4]int{0, 100, 0, 0}, [4]int{100, 0, 200, 0}, [4]int{200, 0, 200, 100}, [4]int{200, 100, 100, 100})},
		{flat(frame(0, 0, 100, 1, 2), 0), 0, edges([4]int{0, 0, 100, 0}, [4]int{100, 0, 100, 100}, [4]int{0, 100, 0, 0}, [4]int{100, 100, 100, 200}, [4]int{100, 200, 0, 200}, [4]int{0, 200, 0, 100})},
		{cross, 2, edges([4]int{100, 100, 200, 100}, [4]int{200, 100, 200, 200}, [4]int{200, 200, 100, 200}, [4]int{100, 200, 100, 100})},
		{cross, 1, edges([4]int{100, 0, 200, 0}, [4]int{200, 0, 200, 100}, [4]int{100, 100, 100, 0}, [4]int{0, 100, 100, 100}, [4]int{100, 200, 0, 200}, [4]int{0, 200, 0, 100},
			[4]int{200, 100, 300, 100}, [4]int{300, 100, 300, 200}, [4]int{300, 200, 200, 200}, [4]int{200, 200, 200, 300}, [4]int{200, 300, 100, 300}, [4]int{100, 300, 100, 200})},
		{corner, 1, edges([4]int{0, 0, 100, 0}, [4]int{100, 0, 100, 100}, [4]int{100, 100, 0, 100}, [4]int{0, 100, 0, 0},
			[4]int{100, 100, 200, 100}, [4]int{200, 100, 200, 200}, [4]int{200, 200, 100, 200}, [4]int{100, 200, 100, 100})},
	} {
		l, e := bed.Contour(c.g, c.level)
		same(t, e, api.OK, "Contour", c)
		sameList(t, l, c.want, "Contour", c)
	}
	for _, level := range []int{highest + 1, -highest - 1, u, math.MaxInt, math.MinInt} {
		same(t, of(bed.Contour(example(), level)), refused(api.ErrRange), "Contour", level)
	}
}

// isHigh reports whether there is a known cell with at least the level.
func isHigh(g api.Grid, c, r, level int) bool {
	if c < 0 || r < 0 || c >= g.Cols || r >= g.Rows {
		return false
	}
	height := g.Levels[r*g.Cols+c]
	return height != u && height >= level
}

// contourByCells looks at the cell on the other side of each side.
func contourByCells(g api.Grid, level int) []api.Edge {
	var out []api.Edge
	for i := range g.Levels {
		c, r := i%g.Cols, i/g.Cols
		if !isHigh(g, c, r, level) {
			continue
		}
		x, y, s := g.X+c*g.Side, g.Y+r*g.Side, g.Side
		if !isHigh(g, c, r-1, level) {
			out = append(out, edges([4]int{x, y, x + s, y})...)
		}
		if !isHigh(g, c+1, r, level) {
			out = append(out, edges([4]int{x + s, y, x + s, y + s})...)
		}
		if !isHigh(g, c, r+1, level) {
			out = append(out, edges([4]int{x + s, y + s, x, y + s})...)
		}
		if !isHigh(g, c-1, r, level) {
			out = append(out, edges([4]int{x, y + s, x, y})...)
		}
	}
	return out
}

func TestP45ContourComputed(t *testing.T) {
	s := &numbers{9}
	for range 1000 {
		g, level := s.grid(7, 7, 3), s.around(4)-500
		l, e := bed.Contour(g, level)
		same(t, e, api.OK, "Contour", g, level)
		sameList(t, l, contourByCells(g, level), "Contour", g, level)
	}
}
