package bed_test

import (
	"math"
	"slices"
	"testing"

	"draghead/api"
	"draghead/bed"
)

func TestP43Latest(t *testing.T) {
	for _, c := range []struct {
		a, b, want []int
	}{
		{[]int{1, 2, 3, 4}, []int{5, 6, 7, 8}, []int{5, 6, 7, 8}},
		{[]int{1, 2, 3, 4}, []int{u, 6, u, 0}, []int{1, 6, 3, 0}},
		{[]int{u, u, 3, 4}, []int{u, 6, u, 8}, []int{u, 6, 3, 8}},
		{[]int{u, u, u, u}, []int{u, u, u, u}, []int{u, u, u, u}},
		{[]int{highest, highest, -highest, u}, []int{-highest, u, highest, -highest}, []int{-highest, highest, highest, -highest}},
	} {
		cells := frame(-7, 9, 103, 2, 2)
		g, e := bed.Latest(with(cells, c.a...), with(cells, c.b...))
		same(t, e, api.OK, "Latest", c)
		sameGrid(t, g, with(cells, c.want...), "Latest", c)
	}
	g, e := bed.Latest(later(), example())
	same(t, e, api.OK, "Latest")
	sameGrid(t, g, with(example(), -500, -300, -400, -600, -700, -450), "Latest")
}

func TestP43Shoalest(t *testing.T) {
	for _, c := range []struct {
		a, b, want []int
	}{
		{[]int{1, 6, -3, -8}, []int{5, 2, -7, -4}, []int{5, 6, -3, -4}},
		{[]int{1, 2, 3, 4}, []int{u, 6, u, 0}, []int{1, 6, 3, 4}},
		{[]int{u, u, 3, 4}, []int{u, 6, u, 8}, []int{u, 6, 3, 8}},
		{[]int{u, u, u, u}, []int{u, u, u, u}, []int{u, u, u, u}},
		{[]int{highest, highest, -highest, u}, []int{-highest, u, highest, -highest}, []int{highest, highest, highest, -highest}},
	} {
		cells := frame(-7, 9, 103, 2, 2)
		g, e := bed.Shoalest(with(cells, c.a...), with(cells, c.b...))
		same(t, e, api.OK, "Shoalest", c)
		sameGrid(t, g, with(cells, c.want...), "Shoalest", c)
	}
	g, e := bed.Shoalest(example(), later())
	same(t, e, api.OK, "Shoalest")
	sameGrid(t, g, with(example(), -500, -300, -350, -600, -700, -450), "Shoalest")
}

// change is the change of cells with a side, told by pairs of levels.
func change(side int, pairs ...[2]int) api.Change {
	var out api.Change
	for _, p := range pairs {
		switch {
		case p[0] == u || p[1] == u:
			out.Unknown++
		case p[1] < p[0]:
			out.Cut += side * side * (p[0] - p[1])
		default:
			out.Fill += side * side * (p[1] - p[0])
		}
	}
	return out
}

func TestP44Compare(t *testing.T) {
	const v = highest
	for _, c := range []struct {
		before, after api.Grid
		want          api.Change
	}{
		{example(), later(), api.Change{Cut: 2000000, Fill: 500000, Unknown: 1}},
		{later(), example(), api.Change{Cut: 500000, Fill: 2000000, Unknown: 1}},
		{example(), example(), api.Change{Unknown: 1}},
		{flat(example(), u), example(), api.Change{Unknown: 6}},
		{flat(example(), u), flat(example(), u), api.Change{Unknown: 6}},
		{with(frame(0, 0, 100, 3, 1), u, 0, 1), with(frame(0, 0, 100, 3, 1), 0, u, 3), api.Change{Fill: 20000, Unknown: 2}},
		{with(frame(0, 0, 101, 1, 2), 5, -5), with(frame(0, 0, 101, 1, 2), 2, -4), api.Change{Cut: 3 * 101 * 101, Fill: 101 * 101}},
		{flat(frame(-farthest, 0, 10000, 32, 32), v), flat(frame(-farthest, 0, 10000, 32, 32), -v), api.Change{Cut: 1024 * 100000000 * 40000}},
		{flat(frame(-farthest, 0, 10000, 32, 32), -v), flat(frame(-farthest, 0, 10000, 32, 32), v), api.Change{Fill: 1024 * 100000000 * 40000}},
	} {
		got, e := bed.Compare(c.before, c.after)
		same(t, e, api.OK, "Compare", c)
		same(t, got, c.want, "Compare", c)
	}
}

func TestP44Strips(t *testing.T) {
	for _, c := range []struct {
		before, after api.Grid
		want          []api.Change
	}{
		{example(), later(), []api.Change{{}, {Cut: 2000000, Unknown: 1}, {Fill: 500000}}},
		{with(frame(0, 0, 100, 1, 3), 1, 2, u), with(frame(0, 0, 100, 1, 3), 0, 4, 5), []api.Change{{Cut: 10000, Fill: 20000, Unknown: 1}}},
		{with(frame(0, 0, 100, 3, 1), 1, 2, u), with(frame(0, 0, 100, 3, 1), 0, 4, 5), []api.Change{{Cut: 10000}, {Fill: 20000}, {Unknown: 1}}},
		{with(frame(0, 0, 100, 2, 2), 1, 2, 3, 4), with(frame(0, 0, 100, 2, 2), 0, 2, 2, 9), []api.Change{{Cut: 20000}, {Fill: 50000}}},
	} {
		got, e := bed.Strips(c.before, c.after)
		same(t, e, api.OK, "Strips", c)
		sameList(t, got, c.want, "Strips", c)
	}
}

func TestP44StripsComputed(t *testing.T) {
	s := &numbers{6}
	for range 500 {
		a := s.grid(6, 6, 30)
		b := s.again(a, 30)
		var all [][2]int
		columns := make([][][2]int, a.Cols)
		for i := range a.Levels {
			pair := [2]int{a.Levels[i], b.Levels[i]}
			all = append(all, pair)
			columns[i%a.Cols] = append(columns[i%a.Cols], pair)
		}
		got, e := bed.Compare(a, b)
		same(t, e, api.OK, "Compare", a, b)
		same(t, got, change(a.Side, all...), "Compare", a, b)
		var want []api.Change
		for _, pairs := range columns {
			want = append(want, change(a.Side, pairs...))
		}
		strips, e := bed.Strips(a, b)
		same(t, e, api.OK, "Strips", a, b)
		sameList(t, strips, want, "Strips", a, b)
	}
}

func TestP44Slices(t *testing.T) {
	const v = highest
	for _, c := range []struct {
		levels []int
		want   []api.Change
	}{
		{[]int{-400}, []api.Change{{Cut: 1000000}, {Cut: 1000000, Fill: 500000}}},
		{nil, []api.Change{{Cut: 2000000, Fill: 500000}}}, // one layer with everything
		{[]int{}, []api.Change{{Cut: 2000000, Fill: 500000}}},
		{[]int{-360}, []api.Change{{Cut: 1400000, Fill: 400000}, {Cut: 600000, Fill: 100000}}},
		{[]int{-450, -410, -380}, []api.Change{{Cut: 500000}, {Cut: 400000}, {Cut: 300000, Fill: 200000}, {Cut: 800000, Fill: 300000}}},
		{[]int{-500}, []api.Change{{}, {Cut: 2000000, Fill: 500000}}},
		{[]int{-300}, []api.Change{{Cut: 2000000, Fill: 500000}, {}}},
		{[]int{-v}, []api.Change{{}, {Cut: 2000000, Fill: 500000}}},
		{[]int{v}, []api.Change{{Cut: 2000000, Fill: 500000}, {}}},
		{[]int{-v, v}, []api.Change{{}, {Cut: 2000000, Fill: 500000}, {}}},
	} {
		got, e := bed.Slices(example(), later(), c.levels)
		same(t, e, api.OK, "Slices", c)
		sameList(t, got, c.want, "Slices", c)
	}
	// The whole range of levels.
	top, bottom := flat(frame(0, 0, 100, 1, 1), v), flat(frame(0, 0, 100, 1, 1), -v)
	got, e := bed.Slices(top, bottom, []int{-v + 1, v - 2})
	same(t, e, api.OK, "Slices")
	sameList(t, got, []api.Change{{Cut: 10000}, {Cut: 10000 * (2*v - 3)}, {Cut: 20000}}, "Slices")
	got, e = bed.Slices(bottom, top, []int{0})
	same(t, e, api.OK, "Slices")
	sameList(t, got, []api.Change{{Fill: 10000 * v}, {Fill: 10000 * v}}, "Slices")
}

// rising is n levels from first on, each one greater by 1.
func rising(n, first int) []int {
	var out []int
	for i := range n {
		out = append(out, first+i)
	}
	return out
}

func TestP44SlicesErrors(t *testing.T) {
	const v = highest
	for _, c := range []struct {
		levels []int
		want   api.Errno
	}{
		{rising(20, -10), api.OK}, {rising(21, -10), api.ErrLarge}, {slices.Repeat([]int{v + 1}, 21), api.ErrLarge}, {slices.Repeat([]int{5}, 21), api.ErrLarge},
		{[]int{v + 1}, api.ErrRange}, {[]int{-v - 1}, api.ErrRange}, {[]int{5, v + 1}, api.ErrRange}, {[]int{u}, api.ErrRange},
		{[]int{5, -v - 1}, api.ErrRange}, // before ErrOrder
		{[]int{5, 5}, api.ErrOrder}, {[]int{5, 4}, api.ErrOrder}, {[]int{1, 3, 2}, api.ErrOrder}, {[]int{-1, -2}, api.ErrOrder},
		{[]int{5, 5, v + 1}, api.ErrOrder}, {[]int{v + 1, 5, 5}, api.ErrRange}, // the first one with an error
		{[]int{math.MaxInt}, api.ErrRange}, {[]int{math.MinInt}, api.ErrRange}, {[]int{-v, v}, api.OK},
	} {
		got, e := bed.Slices(example(), later(), c.levels)
		same(t, e, c.want, "Slices", c)
		if c.want != api.OK {
			same(t, len(got), 0, "Slices", c)
		} else {
			same(t, len(got), len(c.levels)+1, "Slices", c)
		}
	}
}

// layersByUnits is the changes of the layers, centimetre by centimetre.
func layersByUnits(a, b api.Grid, levels []int) []api.Change {
	out := make([]api.Change, len(levels)+1)
	for i := range a.Levels {
		from, to := a.Levels[i], b.Levels[i]
		if from == u || to == u {
			continue
		}
		for level := min(from, to); level < max(from, to); level++ {
			layer := 0
			for layer < len(levels) && levels[layer] <= level {
				layer++
			}
			if to < from {
				out[layer].Cut += a.Side * a.Side
			} else {
				out[layer].Fill += a.Side * a.Side
			}
		}
	}
	return out
}

func TestP44SlicesComputed(t *testing.T) {
	s := &numbers{7}
	for range 500 {
		a := s.grid(4, 4, 30)
		b := s.again(a, 30)
		var levels []int
		for range s.next(6) {
			levels = append(levels, s.around(35)-500)
		}
		slices.Sort(levels)
		levels = slices.Compact(levels)
		got, e := bed.Slices(a, b, levels)
		same(t, e, api.OK, "Slices", a, b, levels)
		sameList(t, got, layersByUnits(a, b, levels), "Slices", a, b, levels)
	}
}

func TestP44Above(t *testing.T) {
	const v = highest
	for _, c := range []struct {
		g                    api.Grid
		level, volume, cells int
	}{
		{example(), -450, 2000000, 2},
		{example(), -451, 10000 * (151 + 51 + 1), 3},
		{example(), -300, 0, 0},
		{example(), -301, 10000, 1},
		{example(), -v, 10000 * (19500 + 19700 + 19600 + 19400 + 19550), 5}, // not the unknown one
		{example(), v, 0, 0},
		{flat(example(), u), 0, 0, 0},
		{flat(example(), u), -v, 0, 0},
		{with(frame(0, 0, 101, 2, 1), 3, 5), 0, 8 * 101 * 101, 2},
		{flat(frame(-farthest, 0, 10000, 32, 32), v), -v, 1024 * 100000000 * 40000, 1024},
		{flat(frame(-farthest, 0, 10000, 32, 32), v), v, 0, 0},
	} {
		volume, cells, e := bed.Above(c.g, c.level)
		same(t, e, api.OK, "Above", c)
		same(t, volume, c.volume, "Above: the volume", c)
		same(t, cells, c.cells, "Above: the cells", c)
	}
	for _, level := range []int{v + 1, -v - 1, u, math.MaxInt, math.MinInt} {
		same(t, ofAbove(bed.Above(example(), level)), refused(api.ErrRange), "Above", level)
	}
}

// What is above a level is what is lost if all above it is taken away.
func TestP44AboveComputed(t *testing.T) {
	s := &numbers{8}
	for range 500 {
		g, level := s.grid(5, 5, 9), s.around(10)-500
		lowered, n := with(g, slices.Clone(g.Levels)...), 0
		for i, l := range g.Levels {
			if l != u && l > level {
				lowered.Levels[i] = level
				n++
			}
		}
		lost, _ := bed.Compare(g, lowered)
		volume, cells, e := bed.Above(g, level)
		same(t, e, api.OK, "Above", g, level)
		same(t, volume, lost.Cut, "Above: the volume", g, level)
		same(t, cells, n, "Above: the cells", g, level)
	}
}
