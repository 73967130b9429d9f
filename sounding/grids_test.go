package sounding_test

import (
	"math"
	"slices"
	"testing"

	"draghead/api"
	"draghead/sounding"
)

const u = api.Unknown

func cells(x, y, side, cols, rows int) api.Grid {
	return api.Grid{X: x, Y: y, Side: side, Cols: cols, Rows: rows}
}

// with is a grid with levels.
func with(g api.Grid, levels ...int) api.Grid {
	g.Levels = levels
	return g
}

func TestP36Grids(t *testing.T) {
	l := example()
	row := cells(0, 0, 100, 10, 1)
	// On the borders of the cells of a grid with 2 columns and 3 rows from (-100, -200) on.
	borders := []api.Sounding{
		at(1, -100, -200, 1, 2), at(2, -1, -101, 3, 4), at(3, 0, -101, 5, 6), at(4, 99, -101, 7, 8), at(5, -1, -100, 9, 10), at(6, 0, -100, 11, 12),
		at(7, 0, 0, 13, 14), at(8, 99, 99, 15, 16), at(9, 100, 0, 99, 99), at(10, -101, 0, 99, 99), at(11, 0, 100, 99, 99), at(12, 0, -201, 99, 99),
		at(13, -farthest, 0, 99, 99), at(14, farthest, 0, 99, 99), at(15, 0, farthest, 99, 99), at(16, 0, -farthest, 99, 99),
	}
	for _, c := range []struct {
		l          []api.Sounding
		g          api.Grid
		bin, floor []int
		count      []int
	}{
		{l, row, []int{-450, u, u, u, u, u, u, u, u, -890}, []int{-460, u, u, u, u, u, u, u, u, -900}, []int{3, 0, 0, 0, 0, 0, 0, 0, 0, 1}},
		{l, cells(60, 0, 100, 10, 1), []int{-450, u, u, u, u, u, u, u, -890, u}, []int{-460, u, u, u, u, u, u, u, -900, u}, []int{1, 0, 0, 0, 0, 0, 0, 0, 1, 0}},
		{l, cells(61, 0, 100, 2, 1), []int{u, u}, []int{u, u}, []int{0, 0}},
		{l, cells(0, 41, 100, 1, 1), []int{-450}, []int{-460}, []int{1}},
		{borders, cells(-100, -200, 100, 2, 3), []int{4, 8, 10, 12, u, 16}, []int{3, 7, 9, 11, u, 15}, []int{2, 2, 1, 1, 0, 2}},
		{nil, cells(0, 0, 100, 2, 1), []int{u, u}, []int{u, u}, []int{0, 0}},
		{[]api.Sounding{at(1, 5, 5, -9, -2), at(2, 5, 5, -7, -3)}, cells(0, 0, 100, 1, 1), []int{-2}, []int{-7}, []int{2}}, // of different ones
		{[]api.Sounding{at(2, 5, 5, -7, -3), at(1, 5, 5, -9, -2)}, cells(0, 0, 100, 1, 1), []int{-2}, []int{-7}, []int{2}},
		{[]api.Sounding{at(1, 0, 0, 0, 0)}, cells(0, 0, 100, 1, 1), []int{0}, []int{0}, []int{1}},
		{[]api.Sounding{at(1, 0, 0, -5, 0), at(2, 0, 0, -4, -1)}, cells(0, 0, 100, 1, 1), []int{0}, []int{-4}, []int{2}},
		{[]api.Sounding{at(1, farthest, farthest, 1, 2)}, cells(farthest, farthest, 10000, 1, 1), []int{2}, []int{1}, []int{1}},
		{[]api.Sounding{at(1, farthest, -farthest, 1, 2)}, cells(-farthest, -farthest, 10000, 201, 1), append(slices.Repeat([]int{u}, 200), 2), append(slices.Repeat([]int{u}, 200), 1), append(make([]int, 200), 1)},
		{[]api.Sounding{at(1, 0, 1023*100, 1, 2)}, cells(0, 0, 100, 1, 1024), append(slices.Repeat([]int{u}, 1023), 2), append(slices.Repeat([]int{u}, 1023), 1), append(make([]int, 1023), 1)},
	} {
		for _, g := range []api.Grid{c.g, with(c.g, 7), with(c.g, 1, 2, 3, 4, 5, 6, 7, 8, 9, 10, 11)} { // Levels is not looked at
			bin, e := sounding.Bin(c.l, g)
			same(t, e, api.OK, "Bin", c)
			sameGrid(t, bin, with(c.g, c.bin...), "Bin", c)
			floor, e := sounding.Floor(c.l, g)
			same(t, e, api.OK, "Floor", c)
			sameGrid(t, floor, with(c.g, c.floor...), "Floor", c)
			count, e := sounding.Count(c.l, g)
			same(t, e, api.OK, "Count", c)
			sameList(t, count, c.count, "Count", c)
		}
	}
}

// gridCalls calls every function with a grid.
func gridCalls(l []api.Sounding, g api.Grid) map[string]answer {
	return map[string]answer{
		"Bin":   ofGrid(sounding.Bin(l, g)),
		"Floor": ofGrid(sounding.Floor(l, g)),
		"Count": listed(sounding.Count(l, g)),
	}
}

func TestP36Cells(t *testing.T) {
	const far = math.MaxInt
	high := []api.Sounding{at(1, 0, 0, 20001, 20001)}
	for _, l := range [][]api.Sounding{nil, example(), high} {
		for _, g := range []api.Grid{
			{}, cells(farthest+1, 0, 100, 1, 1), cells(-farthest-1, 0, 100, 1, 1), cells(0, farthest+1, 100, 1, 1), cells(0, -farthest-1, 100, 1, 1),
			cells(0, 0, 99, 1, 1), cells(0, 0, 10001, 1, 1), cells(0, 0, 0, 1, 1), cells(0, 0, -100, 1, 1), cells(0, 0, 100, 0, 1), cells(0, 0, 100, 1, 0),
			cells(0, 0, 100, -1, 1), cells(0, 0, 100, 1, -1), cells(0, 0, 100, -1, -1), cells(0, 0, 100, -40, -40), cells(0, 0, 100, 0, 2000), cells(0, 0, 100, 2000, -1),
			cells(far, 0, 100, 1, 1), cells(math.MinInt, 0, 100, 1, 1), cells(0, far, 100, 1, 1), cells(0, math.MinInt, 100, 1, 1), cells(0, 0, far, 1, 1),
			cells(0, 0, math.MinInt, 1, 1), cells(0, 0, 100, math.MinInt, 1), cells(0, 0, 100, 1, math.MinInt), cells(0, 0, 100, math.MinInt, math.MinInt),
			cells(farthest+1, 0, 100, 33, 32), cells(0, 0, 99, far, far), // before ErrLarge
		} {
			allRefused(t, gridCalls(l, g), api.ErrRange, l, g)
		}
		for _, g := range []api.Grid{
			cells(0, 0, 100, 33, 32), cells(0, 0, 100, 1025, 1), cells(0, 0, 100, 1, 1025), cells(0, 0, 100, far, 1), cells(0, 0, 100, 1, far), cells(0, 0, 100, far, far),
			cells(0, 0, 100, 1<<32, 1<<32), cells(0, 0, 100, 1<<62, 4), cells(0, 0, 100, 3, 342), cells(0, 0, 100, 342, 3),
		} {
			allRefused(t, gridCalls(l, g), api.ErrLarge, l, g)
		}
	}
	for want, l := range faulty() {
		for _, g := range []api.Grid{{}, cells(0, 0, 100, 33, 32), cells(0, 0, 100, 1, 1)} {
			allRefused(t, gridCalls(l, g), want, l, g)
		}
	}
	for _, g := range []api.Grid{
		cells(farthest, farthest, 100, 1, 1), cells(-farthest, -farthest, 10000, 32, 32), cells(0, 0, 10000, 1024, 1), cells(0, 0, 100, 1, 1024), cells(0, 0, 100, 341, 3),
	} {
		count, e := sounding.Count(nil, g)
		same(t, e, api.OK, "Count", g)
		sameList(t, count, make([]int, g.Cols*g.Rows), "Count", g)
		bin, e := sounding.Bin(nil, g)
		same(t, e, api.OK, "Bin", g)
		sameGrid(t, bin, with(g, slices.Repeat([]int{u}, g.Cols*g.Rows)...), "Bin", g)
	}
}

func TestP36Levels(t *testing.T) {
	const v = api.MaxLevel
	one := cells(0, 0, 100, 1, 1)
	for _, c := range []struct {
		l          []api.Sounding
		bin, floor api.Errno
	}{
		{[]api.Sounding{at(1, 0, 0, -v, v)}, api.OK, api.OK},
		{[]api.Sounding{at(1, 0, 0, 0, v+1)}, api.ErrRange, api.OK},
		{[]api.Sounding{at(1, 0, 0, v+1, v+1)}, api.ErrRange, api.ErrRange},
		{[]api.Sounding{at(1, 0, 0, -v-1, 0)}, api.OK, api.ErrRange},
		{[]api.Sounding{at(1, 0, 0, -v-1, -v-1)}, api.ErrRange, api.ErrRange},
		{[]api.Sounding{at(1, 0, 0, -v-1, -v-1), at(2, 0, 0, -v, -v)}, api.OK, api.OK}, // the greatest one decides
		{[]api.Sounding{at(1, 0, 0, -v, -v), at(2, 0, 0, -v-1, -v-1)}, api.OK, api.OK},
		{[]api.Sounding{at(1, 0, 0, v, v), at(2, 0, 0, 0, v+1), at(3, 0, 0, 5, 5)}, api.ErrRange, api.OK},
		{[]api.Sounding{at(1, 0, 0, u, u)}, api.ErrRange, api.ErrRange}, // a level like Unknown
		{[]api.Sounding{at(1, 0, 0, -highest, highest)}, api.ErrRange, api.ErrRange},
		{[]api.Sounding{at(1, 100, 0, highest, highest), at(2, 0, -1, -highest, -highest)}, api.OK, api.OK}, // outside of all cells
	} {
		same(t, ofGrid(sounding.Bin(c.l, one)).e, c.bin, "Bin", c)
		same(t, ofGrid(sounding.Bin(c.l, one)).empty, c.bin != api.OK, "Bin", c)
		same(t, ofGrid(sounding.Floor(c.l, one)).e, c.floor, "Floor", c)
		same(t, ofGrid(sounding.Floor(c.l, one)).empty, c.floor != api.OK, "Floor", c)
		_, e := sounding.Count(c.l, one)
		same(t, e, api.OK, "Count", c) // has no levels
	}
	// Not only the first cell.
	two := cells(0, 0, 100, 2, 1)
	for _, l := range [][]api.Sounding{{at(1, 0, 0, 0, 0), at(2, 100, 0, v+1, v+1)}, {at(1, 0, 0, v+1, v+1), at(2, 100, 0, 0, 0)}} {
		same(t, ofGrid(sounding.Bin(l, two)), refused(api.ErrRange), "Bin", l)
		same(t, ofGrid(sounding.Floor(l, two)), refused(api.ErrRange), "Floor", l)
	}
}

// in is the soundings in a cell, after the words of the chapter.
func in(l []api.Sounding, g api.Grid, c, r int) []api.Sounding {
	var out []api.Sounding
	for _, s := range l {
		if g.X+c*g.Side <= s.X && s.X < g.X+(c+1)*g.Side && g.Y+r*g.Side <= s.Y && s.Y < g.Y+(r+1)*g.Side {
			out = append(out, s)
		}
	}
	return out
}

func TestP36Computed(t *testing.T) {
	s := &numbers{38}
	for range 500 {
		l := s.sheet(12, 350)
		g := cells(s.around(300), s.around(300), 100+s.next(60), 1+s.next(5), 1+s.next(5))
		var bin, floor, count []int
		for r := range g.Rows {
			for c := range g.Cols {
				hi, lo := u, u
				for i, x := range in(l, g, c, r) {
					if i == 0 {
						hi, lo = x.Hi, x.Lo
					}
					hi, lo = max(hi, x.Hi), max(lo, x.Lo)
				}
				bin, floor, count = append(bin, hi), append(floor, lo), append(count, len(in(l, g, c, r)))
			}
		}
		got, e := sounding.Bin(l, g)
		same(t, e, api.OK, "Bin", l, g)
		sameGrid(t, got, with(g, bin...), "Bin", l, g)
		got, e = sounding.Floor(l, g)
		same(t, e, api.OK, "Floor", l, g)
		sameGrid(t, got, with(g, floor...), "Floor", l, g)
		n, e := sounding.Count(l, g)
		same(t, e, api.OK, "Count", l, g)
		sameList(t, n, count, "Count", l, g)
	}
}
