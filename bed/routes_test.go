package bed_test

import (
	"math"
	"slices"
	"testing"

	"draghead/api"
	"draghead/bed"
)

// way is a route from some cells to others.
func way(from, to []int, level int, path, barrier []int) api.Way {
	return api.Way{From: from, To: to, Route: api.Route{Level: level, Path: path, Barrier: barrier}}
}

// leastLevel is the least highest level of the ways from some cells to others, and whether there is one:
// what each cell can be reached with gets less from neighbour to neighbour, until nothing changes.
func leastLevel(g api.Grid, from, to []int) (int, bool) {
	reached := slices.Repeat([]int{u}, len(g.Levels))
	for _, i := range from {
		reached[i] = g.Levels[i]
	}
	for changed := true; changed; {
		changed = false
		for i := range g.Levels {
			near, _ := bed.Near(g, i)
			for _, j := range near {
				if over := max(reached[j], g.Levels[i]); over < reached[i] {
					reached[i], changed = over, true
				}
			}
		}
	}
	least := u
	for _, i := range to {
		least = min(least, reached[i])
	}
	return least, least != u
}

// clearly fails the test unless Clear returns a route with this level, which CheckClear accepts.
func clearly(t *testing.T, g api.Grid, from, to []int, level int) {
	t.Helper()
	r, e := bed.Clear(g, from, to)
	same(t, e, api.OK, "Clear", frameOf(g), from, to)
	same(t, r.Level, level, "Clear: the level", frameOf(g), from, to)
	q := api.Way{From: from, To: to, Route: r}
	same(t, bed.CheckClear(g, q), api.OK, "CheckClear after Clear", frameOf(g), q)
	same(t, isPath(g, q), true, "Clear: the path", frameOf(g), q)
	highest := g.Levels[r.Path[0]]
	for _, i := range r.Path {
		highest = max(highest, g.Levels[i])
	}
	same(t, highest, level, "Clear: the highest level of the path", frameOf(g), q)
	for _, i := range r.Barrier {
		same(t, g.Levels[i] != u && g.Levels[i] >= level, true, "Clear: a cell of the barrier", frameOf(g), q, i)
	}
	for _, c := range [][2][]int{{from, to}, {to, from}} { // turned round it is as high
		back, e := bed.Clear(g, c[0], c[1])
		same(t, e, api.OK, "Clear", frameOf(g), c)
		same(t, back.Level, level, "Clear: the level", frameOf(g), c)
	}
}

// isPath reports whether the path is a way, after the words of the chapter.
func isPath(g api.Grid, q api.Way) bool {
	path := q.Route.Path
	for k, i := range path {
		if i < 0 || i >= len(g.Levels) || g.Levels[i] == u {
			return false
		}
		if k > 0 {
			if near, _ := bed.Near(g, path[k-1]); !slices.Contains(near, i) {
				return false
			}
		}
	}
	return len(path) > 0 && slices.Contains(q.From, path[0]) && slices.Contains(q.To, path[len(path)-1])
}

func TestP46Clear(t *testing.T) {
	ridge := with(frame(0, 0, 100, 3, 3), -9, -2, -9, -9, -5, -9, -9, -3, -9)
	for _, c := range []struct {
		g        api.Grid
		from, to []int
		level    int
	}{
		{example(), []int{3}, []int{5}, -300},
		{later(), []int{3}, []int{5}, -450},
		{example(), []int{3}, []int{3}, -600},       // one cell alone
		{example(), []int{3, 5}, []int{0, 5}, -500}, // better than the one cell 5
		{example(), []int{3, 1}, []int{0}, -500},    // not by the neighbour that is higher
		{example(), []int{1}, []int{0}, -300},       // the ends count too
		{example(), []int{0}, []int{1}, -300},
		{example(), []int{4, 0}, []int{4, 3}, -500}, // unknown cells among others
		{example(), []int{3, 3, 3}, []int{5, 5}, -300},
		{example(), []int{0, 2}, []int{1, 3}, -500},
		{ridge, []int{0, 3, 6}, []int{2, 5, 8}, -5},
		{ridge, []int{0}, []int{2}, -5},
		{with(ridge, -9, -2, -9, -9, u, -9, -9, -3, -9), []int{0}, []int{2}, -3},
		{with(ridge, -9, -2, -9, -9, u, -9, -9, u, -9), []int{0}, []int{8}, -2},
		{flat(frame(0, 0, 100, 1, 1), highest), []int{0}, []int{0}, highest},
		{flat(frame(0, 0, 100, 2, 1), -highest), []int{0}, []int{1}, -highest},
		{with(frame(0, 0, 100, 3, 1), -highest, highest, 0), []int{0}, []int{2}, highest},
		{with(frame(0, 0, 100, 1, 3), 0, -1, 0), []int{0}, []int{2}, 0},
		{flat(frame(0, 0, 100, 32, 32), 7), []int{0}, []int{1023}, 7},
		{with(frame(0, 0, 100, 1024, 1), rising(1024, -500)...), []int{0}, []int{1023}, 523},
		{with(frame(0, 0, 100, 1, 1024), rising(1024, -500)...), []int{7}, []int{3}, -493},
	} {
		clearly(t, c.g, c.from, c.to, c.level)
	}
}

// maze is a grid of deep cells with walls of unknown cells, open at the right and the left end in turn.
func maze() api.Grid {
	g := flat(frame(0, 0, 100, 31, 33), -900)
	for row := 1; row < 33; row += 2 {
		for col := range 31 {
			g.Levels[row*31+col] = u
		}
		g.Levels[row*31+30*(row/2%2)] = -800
	}
	return g
}

func TestP46ClearOfAMaze(t *testing.T) {
	g := maze()
	clearly(t, g, []int{30}, []int{32*31 + 30}, -800)
	g.Levels[16*31+15] = -850
	clearly(t, g, []int{30}, []int{32*31 + 30}, -800)
	g.Levels[16*31+15] = -5 // in the middle of the only way
	clearly(t, g, []int{30}, []int{32*31 + 30}, -5)
	r, e := bed.Clear(g, []int{30}, []int{32*31 + 30})
	same(t, e, api.OK, "Clear of a maze")
	q := api.Way{From: []int{30}, To: []int{32*31 + 30}, Route: r}
	q.Route.Barrier = []int{16*31 + 15}
	same(t, bed.CheckClear(g, q), api.OK, "CheckClear of a maze")
	g.Levels[16*31+15] = u
	same(t, of(bed.Clear(g, []int{30}, []int{32*31 + 30})), refused(api.ErrNone), "Clear of a maze that is closed")
}

func TestP46ClearErrors(t *testing.T) {
	parted := with(frame(0, 0, 100, 3, 2), 1, u, 2, u, u, 3)
	for _, c := range []struct {
		g        api.Grid
		from, to []int
		want     api.Errno
	}{
		{example(), nil, nil, api.ErrShape}, {example(), []int{0}, nil, api.ErrShape}, {example(), nil, []int{0}, api.ErrShape}, {example(), []int{}, []int{}, api.ErrShape},
		{example(), []int{-1}, nil, api.ErrShape}, {example(), nil, []int{6}, api.ErrShape}, // before ErrMissing
		{example(), []int{6}, []int{0}, api.ErrMissing}, {example(), []int{0}, []int{6}, api.ErrMissing}, {example(), []int{0, -1}, []int{0}, api.ErrMissing},
		{example(), []int{0}, []int{0, 1, 6}, api.ErrMissing}, {example(), []int{4, 6}, []int{4}, api.ErrMissing}, // before ErrNone
		{example(), []int{math.MaxInt}, []int{0}, api.ErrMissing}, {example(), []int{0}, []int{math.MinInt}, api.ErrMissing},
		{example(), []int{0}, []int{4}, api.ErrNone}, {example(), []int{4}, []int{0}, api.ErrNone}, {example(), []int{4}, []int{4}, api.ErrNone},
		{flat(example(), u), []int{0, 1, 2}, []int{0, 1, 2}, api.ErrNone},
		{parted, []int{0}, []int{2}, api.ErrNone}, {parted, []int{0, 1}, []int{4, 5}, api.ErrNone},
	} {
		same(t, of(bed.Clear(c.g, c.from, c.to)), refused(c.want), "Clear", c)
		want := c.want
		if want == api.ErrNone {
			want = api.ErrProof
		}
		for _, r := range []api.Route{{}, {Level: 1, Path: []int{0, 1}, Barrier: []int{-1}}, {Level: -500, Path: []int{0, 0}, Barrier: []int{0, 4}}} {
			same(t, bed.CheckClear(c.g, api.Way{From: c.from, To: c.to, Route: r}), want, "CheckClear", c, r)
		}
	}
}

func TestP46CheckClear(t *testing.T) {
	from, to, path := []int{3}, []int{5}, []int{3, 0, 1, 2, 5}
	for _, c := range []struct {
		q    api.Way
		want api.Errno
	}{
		{way(from, to, -300, path, []int{1}), api.OK},
		{way(from, to, -300, path, []int{1, 1, 1}), api.OK},                                             // twice
		{way(from, to, -300, []int{3, 0, 3, 0, 1, 0, 1, 2, 1, 2, 5, 2, 5}, []int{1}), api.OK},           // to and fro
		{way([]int{5, 3, 3}, []int{4, 5}, -300, path, []int{1}), api.ErrProof},                          // there is a way from 5 to 5
		{way([]int{4, 3, 3}, []int{4, 5}, -300, path, []int{1}), api.OK},                                // nothing begins at an unknown cell
		{way(from, to, -300, path, []int{2}), api.ErrProof},                                             // lower
		{way(from, to, -300, path, []int{1, 2}), api.ErrProof},                                          // one of them is
		{way(from, to, -300, path, nil), api.ErrProof},                                                  // every way goes past none
		{way(from, to, -300, path, []int{1, 4}), api.ErrProof},                                          // not known
		{way(from, to, -300, path, []int{1, 6}), api.ErrProof},                                          // not there
		{way(from, to, -300, path, []int{-1, 1}), api.ErrProof},                                         // not there
		{way(from, to, -300, path, []int{math.MaxInt}), api.ErrProof},                                   // not there
		{way(from, to, -299, path, []int{1}), api.ErrProof},                                             // not the highest level
		{way(from, to, -301, path, []int{1}), api.ErrProof},                                             // not the highest level
		{way(from, to, -400, path, []int{1}), api.ErrProof},                                             // not the highest level
		{way(from, to, u, path, []int{1}), api.ErrProof},                                                // not the highest level
		{way(from, to, math.MinInt, path, []int{1}), api.ErrProof},                                      // not the highest level
		{way(from, to, -300, nil, []int{1}), api.ErrProof},                                              // no way
		{way(from, to, -300, []int{3, 0, 1, 2}, []int{1}), api.ErrProof},                                // does not end there
		{way(from, to, -300, []int{0, 1, 2, 5}, []int{1}), api.ErrProof},                                // does not begin there
		{way(from, to, -300, []int{5, 2, 1, 0, 3}, []int{1}), api.ErrProof},                             // turned round
		{way(from, to, -300, []int{3, 4, 5}, []int{1}), api.ErrProof},                                   // over an unknown cell
		{way(from, to, -300, []int{3, 0, 1, 5}, []int{1}), api.ErrProof},                                // from corner to corner
		{way(from, to, -300, []int{3, 0, 0, 1, 2, 5}, []int{1}), api.ErrProof},                          // no cell is its own neighbour
		{way(from, to, -300, []int{3, 2, 1, 2, 5}, []int{1}), api.ErrProof},                             // around the end of a row
		{way(from, to, -300, []int{3, 0, 1, 6, 5}, []int{1}), api.ErrProof},                             // not there
		{way(from, to, -300, []int{3, 0, -1, 2, 5}, []int{1}), api.ErrProof},                            // not there
		{way([]int{0}, []int{1, 4}, -300, []int{0, 1}, []int{1}), api.OK},                               // the last one is the barrier
		{way([]int{1}, []int{0}, -300, []int{1, 0}, []int{1}), api.OK},                                  // the first one is
		{way([]int{3}, []int{3}, -600, []int{3}, []int{3}), api.OK},                                     // one cell alone
		{way([]int{3}, []int{3}, -600, []int{3}, nil), api.ErrProof},                                    // it has to be in the barrier
		{way([]int{3}, []int{3}, -600, []int{3}, []int{0, 1, 2}), api.ErrProof},                         // it has to be in the barrier
		{way([]int{3}, []int{3}, -500, []int{3, 0, 3}, []int{0}), api.ErrProof},                         // there is a better way
		{way([]int{3}, []int{3, 0}, -600, []int{3}, []int{3, 0}), api.OK},                               // more of them than needed
		{way([]int{3}, []int{3, 0}, -600, []int{3}, []int{3}), api.OK},                                  // every way begins at 3
		{way([]int{3, 5}, []int{0, 2}, -400, []int{5, 2}, []int{2}), api.ErrProof},                      // 3 to 0 is a way past it
		{way([]int{3, 5}, []int{0, 2}, -500, []int{3, 0}, []int{0, 2}), api.OK},                         // all ends
		{way([]int{3, 5}, []int{0, 2}, -500, []int{3, 0}, []int{0, 5}), api.OK},                         // one end, one beginning
		{way([]int{3, 5}, []int{0, 2}, -500, []int{3, 0}, []int{0, 1}), api.ErrProof},                   // 5 to 2
		{way([]int{3, 5}, []int{0, 2}, -500, []int{3, 0}, []int{5, 2, 1, 0, 5, 0}), api.OK},             // in any order
		{way([]int{3, 5}, []int{0, 2}, -500, []int{3, 0}, []int{0, 1, 2, 3}), api.ErrProof},             // 3 is lower
		{way([]int{3, 5}, []int{0, 2}, -400, []int{3, 0, 1, 2}, []int{0, 2}), api.ErrProof},             // the highest one is 1
		{way([]int{0, 0, 0}, []int{2, 2}, -300, []int{0, 1, 2}, slices.Repeat([]int{1}, 5000)), api.OK}, // any number of them
	} {
		same(t, bed.CheckClear(example(), c.q), c.want, "CheckClear", c.q)
	}
}

// goesPast reports whether there is a way on from a cell that has no cell of the barrier: it goes along all of them that have no cell twice.
func goesPast(g api.Grid, q api.Way, gone []int, i int) bool {
	if g.Levels[i] == u || slices.Contains(q.Route.Barrier, i) || slices.Contains(gone, i) {
		return false
	}
	if slices.Contains(q.To, i) {
		return true
	}
	near, _ := bed.Near(g, i)
	for _, j := range near {
		if goesPast(g, q, append(gone, i), j) {
			return true
		}
	}
	return false
}

// proves is what CheckClear accepts, after the words of the chapter.
func proves(g api.Grid, q api.Way) bool {
	if !isPath(g, q) {
		return false
	}
	highest := math.MinInt
	for _, i := range q.Route.Path {
		highest = max(highest, g.Levels[i])
	}
	if highest != q.Route.Level {
		return false
	}
	for _, i := range q.Route.Barrier {
		if i < 0 || i >= len(g.Levels) || g.Levels[i] == u || g.Levels[i] < q.Route.Level {
			return false
		}
	}
	for _, i := range q.From {
		if goesPast(g, q, nil, i) {
			return false
		}
	}
	return true
}

// change changes a list of cells in one place.
func (s *numbers) change(l []int, cells int) []int {
	out := slices.Clone(l)
	if len(out) == 0 {
		return []int{s.next(cells)}
	}
	k := s.next(len(out))
	switch s.next(4) {
	case 0:
		return slices.Delete(out, k, k+1)
	case 1:
		return slices.Insert(out, k, s.next(cells+2)-1)
	case 2:
		out[k] = s.next(cells)
	case 3:
		out = append(out, s.next(cells))
	}
	return out
}

func TestP46ClearComputed(t *testing.T) {
	s := &numbers{10}
	for range 2000 {
		g := s.grid(7, 7, 4)
		from, to := s.cells(g, 3), s.cells(g, 3)
		level, is := leastLevel(g, from, to)
		if !is {
			same(t, of(bed.Clear(g, from, to)), refused(api.ErrNone), "Clear", g, from, to)
			continue
		}
		clearly(t, g, from, to, level)
	}
}

func TestP46CheckClearComputed(t *testing.T) {
	s := &numbers{11}
	accepted, denied := 0, 0
	for range 6000 {
		g := s.grid(3, 3, 2)
		q := api.Way{From: s.cells(g, 2), To: s.cells(g, 2)}
		r, e := bed.Clear(g, q.From, q.To)
		if e != api.OK {
			continue
		}
		q.Route = r
		for range 6 {
			want := api.ErrProof
			if proves(g, q) {
				want = api.OK
				accepted++
				least, _ := leastLevel(g, q.From, q.To)
				same(t, q.Route.Level, least, "the level of a route that is proved", g, q)
			} else {
				denied++
			}
			same(t, bed.CheckClear(g, q), want, "CheckClear", g, q)
			switch s.next(4) {
			case 0:
				q.Route.Path = s.change(q.Route.Path, len(g.Levels))
			case 1:
				q.Route.Level += s.around(1)
			default:
				q.Route.Barrier = s.change(q.Route.Barrier, len(g.Levels))
			}
		}
	}
	same(t, accepted > 3000 && denied > 3000, true, "both answers are looked at", accepted, denied)
}
