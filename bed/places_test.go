package bed_test

import (
	"math"
	"math/big"
	"slices"
	"testing"

	"draghead/api"
	"draghead/bed"
	"draghead/geometry"
)

func TestP42Cell(t *testing.T) {
	g := example()
	for _, c := range []struct {
		p    api.Point
		want int
		e    api.Errno
	}{
		{at(250, 100), 5, api.OK}, {at(0, 0), 0, api.OK}, {at(99, 99), 0, api.OK}, {at(100, 99), 1, api.OK}, {at(99, 100), 3, api.OK}, {at(299, 199), 5, api.OK},
		{at(200, 0), 2, api.OK}, {at(150, 150), 4, api.OK},
		{at(300, 0), 0, api.ErrNone}, {at(0, 200), 0, api.ErrNone}, {at(-1, 0), 0, api.ErrNone}, {at(0, -1), 0, api.ErrNone}, {at(-50, 150), 0, api.ErrNone},
		{at(math.MaxInt, 0), 0, api.ErrNone}, {at(math.MinInt, 0), 0, api.ErrNone}, {at(0, math.MaxInt), 0, api.ErrNone}, {at(0, math.MinInt), 0, api.ErrNone},
	} {
		i, e := bed.Cell(g, c.p)
		same(t, e, c.e, "Cell", c.p)
		same(t, i, c.want, "Cell", c.p)
	}
	// The ends of int, seen from either end of the range of places.
	for _, x := range []int{-farthest, farthest - 100} {
		for _, n := range []int{math.MinInt, math.MinInt + farthest, math.MaxInt - farthest, math.MaxInt} {
			one := flat(frame(x, x, 100, 1, 1), 0)
			same(t, of(bed.Cell(one, at(n, x))), refused(api.ErrNone), "Cell", x, n)
			same(t, of(bed.Cell(one, at(x, n))), refused(api.ErrNone), "Cell", x, n)
		}
	}
}

func TestP42Level(t *testing.T) {
	for _, c := range []struct {
		p    api.Point
		want int
		e    api.Errno
	}{
		{at(150, 150), 0, api.ErrUnknown}, {at(100, 100), 0, api.ErrUnknown}, {at(199, 199), 0, api.ErrUnknown}, {at(300, 0), 0, api.ErrNone}, {at(0, -1), 0, api.ErrNone},
		{at(0, 0), -500, api.OK}, {at(199, 99), -300, api.OK}, {at(200, 100), -450, api.OK}, {at(99, 199), -600, api.OK},
		{at(math.MinInt, math.MaxInt), 0, api.ErrNone},
	} {
		level, e := bed.Level(example(), c.p)
		same(t, e, c.e, "Level", c.p)
		same(t, level, c.want, "Level", c.p)
	}
}

// The cell of each place around a grid, after the words of the chapter.
func TestP42CellComputed(t *testing.T) {
	s := &numbers{1}
	for range 300 {
		g := s.grid(5, 5, 9)
		for range 50 {
			p := at(g.X-20+s.next(g.Cols*g.Side+40), g.Y-20+s.next(g.Rows*g.Side+40))
			want := []int{}
			for i := range g.Levels {
				c, r := i%g.Cols, i/g.Cols
				if g.X+c*g.Side <= p.X && p.X < g.X+(c+1)*g.Side && g.Y+r*g.Side <= p.Y && p.Y < g.Y+(r+1)*g.Side {
					want = append(want, i)
				}
			}
			i, e := bed.Cell(g, p)
			level, f := bed.Level(g, p)
			if len(want) == 0 {
				same(t, answer{i == 0, e}, refused(api.ErrNone), "Cell", g, p)
				same(t, answer{level == 0, f}, refused(api.ErrNone), "Level", g, p)
				continue
			}
			same(t, e, api.OK, "Cell", g, p)
			sameList(t, []int{i}, want, "Cell", g, p)
			if g.Levels[i] == u {
				same(t, answer{level == 0, f}, refused(api.ErrUnknown), "Level", g, p)
			} else {
				same(t, f, api.OK, "Level", g, p)
				same(t, level, g.Levels[i], "Level", g, p)
			}
		}
	}
}

func TestP42Centre(t *testing.T) {
	for _, c := range []struct {
		g    api.Grid
		i    int
		want api.Point
	}{
		{example(), 5, at(250, 150)}, {example(), 0, at(50, 50)}, {example(), 2, at(250, 50)}, {example(), 3, at(50, 150)},
		{flat(frame(0, 0, 101, 2, 2), 0), 0, at(50, 50)}, {flat(frame(0, 0, 101, 2, 2), 0), 3, at(151, 151)}, // halves rounded down
		{flat(frame(-101, -202, 101, 2, 2), u), 0, at(-51, -152)}, {flat(frame(-51, -51, 101, 1, 1), u), 0, at(-1, -1)},
		{flat(frame(-farthest, -farthest, 10000, 1, 1), 0), 0, at(-995000, -995000)}, {flat(frame(farthest-103, 0, 103, 1, 1), 0), 0, at(farthest-52, 51)},
	} {
		p, e := bed.Centre(c.g, c.i)
		same(t, e, api.OK, "Centre", c)
		same(t, p, c.want, "Centre", c)
		i, e := bed.Cell(c.g, p)
		same(t, e, api.OK, "Cell of the centre", c)
		same(t, i, c.i, "Cell of the centre", c)
	}
	for _, i := range []int{-1, 6, math.MinInt, math.MaxInt} {
		same(t, of(bed.Centre(example(), i)), refused(api.ErrMissing), "Centre", i)
		same(t, of(bed.Near(example(), i)), refused(api.ErrMissing), "Near", i)
	}
}

func TestP42Near(t *testing.T) {
	for _, c := range []struct {
		cols, rows, i int
		want          []int
	}{
		{3, 2, 4, []int{1, 3, 5}}, {3, 2, 0, []int{1, 3}}, {3, 2, 2, []int{1, 5}}, {3, 2, 3, []int{0, 4}}, {3, 2, 5, []int{2, 4}}, {3, 2, 1, []int{0, 2, 4}},
		{3, 3, 4, []int{1, 3, 5, 7}}, {1, 1, 0, nil}, {4, 1, 0, []int{1}}, {4, 1, 2, []int{1, 3}}, {1, 4, 3, []int{2}}, {1, 4, 1, []int{0, 2}}, {2, 2, 1, []int{0, 3}},
	} {
		l, e := bed.Near(flat(frame(0, 0, 100, c.cols, c.rows), u), c.i)
		same(t, e, api.OK, "Near", c)
		sameList(t, l, c.want, "Near", c)
	}
	// Cells have a side in common if their centres are a side apart.
	s := &numbers{2}
	for range 100 {
		g := s.grid(6, 6, 9)
		for i := range g.Levels {
			p, _ := bed.Centre(g, i)
			var want []int
			for j := range g.Levels {
				if q, _ := bed.Centre(g, j); geometry.Square(p, q) == g.Side*g.Side {
					want = append(want, j)
				}
			}
			l, e := bed.Near(g, i)
			same(t, e, api.OK, "Near", g, i)
			sameList(t, l, want, "Near", g, i)
		}
	}
}

func TestP42Within(t *testing.T) {
	for _, c := range []struct {
		corners []api.Point
		want    []int
	}{
		{points(50, 50, 160, 50, 160, 160, 50, 160), []int{0, 1, 3, 4}}, // centres on the border and at a corner
		{points(51, 51, 160, 51, 160, 160, 51, 160), []int{4}},
		{points(-9, -9, 999, -9, 999, 999, -9, 999), []int{0, 1, 2, 3, 4, 5}},
		{points(0, 0, 10, 0, 10, 10), nil},
		{points(500, 500, 900, 500, 900, 900), nil},
		{points(0, 0, 0, 200, 300, 200, 300, 0, 200, 0, 200, 100, 100, 100, 100, 0), []int{0, 2, 3, 4, 5}}, // clockwise, with a bay
		{points(50, 50, 250, 50, 250, 150), []int{0, 1, 2, 5}},
		{points(50, 50, 250, 150, 50, 250), []int{0, 3, 4, 5}},
	} {
		l, e := bed.Within(example(), c.corners)
		same(t, e, api.OK, "Within", c)
		sameList(t, l, c.want, "Within", c)
	}
	var ring []api.Point // 41 corners
	for i := range 41 {
		ring = append(ring, at(i, i*i))
	}
	for _, c := range []struct {
		corners []api.Point
		want    api.Errno
	}{
		{nil, api.ErrShape}, {points(0, 0, 9, 9), api.ErrShape}, {ring, api.ErrLarge}, {points(0, 0, farthest+1, 0, 0, 9), api.ErrRange},
		{points(0, 0, 4, 4, 4, 0, 0, 4), api.ErrForm}, {points(0, 0, 4, 4, 8, 8), api.ErrForm}, {points(0, 0, 0, 0, 4, 4), api.ErrForm},
		{points(math.MinInt, 0, math.MaxInt, 0, 0, math.MaxInt), api.ErrRange},
	} {
		same(t, of(bed.Within(example(), c.corners)), refused(c.want), "Within", c)
	}
	l, e := bed.Within(flat(frame(-farthest, -farthest, 10000, 32, 32), 0), ring[:40])
	same(t, e, api.OK, "Within of the greatest grid")
	sameList(t, l, nil, "Within of the greatest grid")
}

func TestP42WithinComputed(t *testing.T) {
	s := &numbers{3}
	for range 300 {
		g := s.grid(6, 6, 9)
		var corners []api.Point
		for range 3 + s.next(3) {
			corners = append(corners, at(g.X+s.next(700)-50, g.Y+s.next(700)-50))
		}
		if geometry.CheckPolygon(corners) != api.OK {
			continue
		}
		var want []int
		for i := range g.Levels {
			centre, _ := bed.Centre(g, i)
			if where, _ := geometry.Inside(corners, centre); where != -1 {
				want = append(want, i)
			}
		}
		l, e := bed.Within(g, corners)
		same(t, e, api.OK, "Within", g, corners)
		sameList(t, l, want, "Within", g, corners)
	}
}

func TestP42Highest(t *testing.T) {
	level := with(frame(0, 0, 100, 4, 1), -5, -5, u, -6)
	for _, c := range []struct {
		g     api.Grid
		cells []int
		want  int
	}{
		{example(), []int{3, 4, 5, 0}, 5}, {example(), []int{0, 1, 2, 3, 4, 5}, 1}, {example(), []int{3}, 3}, {example(), []int{4, 3, 4}, 3}, {example(), []int{3, 3}, 3},
		{level, []int{0, 1}, 0}, {level, []int{1, 0}, 0}, {level, []int{3, 1}, 1}, {level, []int{2, 3}, 3}, {level, []int{3, 1, 0, 2, 1}, 0},
		{with(frame(0, 0, 100, 3, 1), u, -highest, -highest), []int{0, 2, 1}, 1}, {with(frame(0, 0, 100, 2, 1), 0, highest), []int{0, 1}, 1},
	} {
		i, e := bed.Highest(c.g, c.cells)
		same(t, e, api.OK, "Highest", c)
		same(t, i, c.want, "Highest", c)
	}
	for _, c := range []struct {
		cells []int
		want  api.Errno
	}{
		{nil, api.ErrUnknown}, {[]int{}, api.ErrUnknown}, {[]int{4}, api.ErrUnknown}, {[]int{4, 4}, api.ErrUnknown},
		{[]int{4, 6}, api.ErrMissing}, {[]int{-1, 4}, api.ErrMissing}, {[]int{1, 6}, api.ErrMissing}, {[]int{1, 2, -1}, api.ErrMissing},
		{[]int{math.MaxInt}, api.ErrMissing}, {[]int{0, math.MinInt}, api.ErrMissing},
	} {
		same(t, of(bed.Highest(example(), c.cells)), refused(c.want), "Highest", c)
	}
}

func TestP42HighestComputed(t *testing.T) {
	s := &numbers{4}
	for range 1000 {
		g := s.grid(4, 4, 3)
		cells := s.cells(g, 6)
		i, e := bed.Highest(g, cells)
		all := slices.Clone(cells)
		slices.Sort(all)
		want := -1
		for _, j := range all {
			if g.Levels[j] != u && (want < 0 || g.Levels[j] > g.Levels[want]) {
				want = j
			}
		}
		if want < 0 {
			same(t, answer{i == 0, e}, refused(api.ErrUnknown), "Highest", g, cells)
			continue
		}
		same(t, e, api.OK, "Highest", g, cells)
		same(t, i, want, "Highest", g, cells)
	}
}

func TestP42Profile(t *testing.T) {
	for _, c := range []struct {
		from, to api.Point
		n        int
		want     []int
	}{
		{at(50, 50), at(350, 150), 3, []int{-500, -300, -450, u}},
		{at(50, 50), at(50, 50), 1, []int{-500, -500}},
		{at(50, 50), at(50, 50), 2, []int{-500, -500, -500}},
		{at(0, 0), at(299, 0), 1, []int{-500, -400}},
		{at(299, 0), at(0, 0), 1, []int{-400, -500}},
		{at(150, 150), at(150, 50), 2, []int{u, u, -300}},
		{at(150, 150), at(150, 49), 2, []int{u, -300, -300}}, // 99.5 is rounded down
		{at(150, 50), at(150, 149), 2, []int{-300, -300, u}}, // and 99.5 on the way back
		{at(1, 50), at(-2, 50), 2, []int{-500, u, u}},        // -0.5 is rounded down, not to 0
		{at(-2, 50), at(1, 50), 2, []int{u, u, -500}},
		{at(-3, 50), at(1, 50), 2, []int{u, u, -500}},
		{at(0, 0), at(200, 0), 200, append(slices.Repeat([]int{-500}, 100), append(slices.Repeat([]int{-300}, 100), -400)...)},
		{at(-farthest, -farthest), at(farthest, farthest), 2, []int{u, -500, u}},
		{at(farthest, -farthest), at(-farthest, farthest), 2, []int{u, -500, u}},
	} {
		l, e := bed.Profile(example(), c.from, c.to, c.n)
		same(t, e, api.OK, "Profile", c)
		sameList(t, l, c.want, "Profile", c)
	}
}

func TestP42ProfileErrors(t *testing.T) {
	in := at(50, 50)
	for _, n := range []int{0, -1, 201, math.MinInt, math.MaxInt} {
		same(t, of(bed.Profile(example(), in, in, n)), refused(api.ErrRange), "Profile", n)
	}
	for _, p := range []api.Point{
		at(farthest+1, 0), at(-farthest-1, 0), at(0, farthest+1), at(0, -farthest-1), at(math.MinInt, 0), at(math.MaxInt, 0), at(0, math.MinInt), at(0, math.MaxInt),
	} {
		same(t, of(bed.Profile(example(), p, in, 1)), refused(api.ErrRange), "Profile", p)
		same(t, of(bed.Profile(example(), in, p, 1)), refused(api.ErrRange), "Profile", p)
	}
}

// down is from + (to - from) k / n, rounded down, in exact fractions.
func down(from, to, k, n int) int {
	f := big.NewRat(int64((to-from)*k), int64(n))
	f.Add(f, big.NewRat(int64(from), 1))
	return int(new(big.Int).Div(f.Num(), f.Denom()).Int64()) // Div of a positive denominator rounds down
}

func TestP42ProfileComputed(t *testing.T) {
	s := &numbers{5}
	for range 500 {
		g := s.grid(5, 5, 9)
		from, to, n := at(g.X+s.around(700), g.Y+s.around(700)), at(g.X+s.around(700), g.Y+s.around(700)), 1+s.next(200)
		var want []int
		for k := 0; k <= n; k++ {
			level, e := bed.Level(g, at(down(from.X, to.X, k, n), down(from.Y, to.Y, k, n)))
			if e != api.OK {
				level = u
			}
			want = append(want, level)
		}
		l, e := bed.Profile(g, from, to, n)
		same(t, e, api.OK, "Profile", g, from, to, n)
		sameList(t, l, want, "Profile", g, from, to, n)
	}
}
