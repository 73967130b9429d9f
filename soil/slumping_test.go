package soil_test

import (
	"slices"
	"testing"

	"draghead/api"
	"draghead/soil"
)

// ends is the greatest stable grid that is nowhere higher, and the least one that is nowhere lower: no cell is higher than another one by more than the steps of the shortest way between them.
func ends(g api.Ground, m api.Grid) (low, high api.Grid) {
	far := ways(g, m)
	low, high = with(m, slices.Clone(m.Levels)...), with(m, slices.Clone(m.Levels)...)
	for i := range far {
		for j, steps := range far[i] {
			if steps >= 0 {
				low.Levels[i] = min(low.Levels[i], m.Levels[j]+steps)
				high.Levels[i] = max(high.Levels[i], m.Levels[j]-steps)
			}
		}
	}
	return low, high
}

// ways is the least sum of allowed differences on a way over known cells from each one to each other one, or -1.
func ways(g api.Ground, m api.Grid) [][]int {
	n := len(m.Levels)
	out := make([][]int, n)
	for i := range out {
		out[i] = slices.Repeat([]int{-1}, n)
		for j := range n {
			switch {
			case !known(m, i) || !known(m, j):
			case i == j:
				out[i][j] = 0
			case beside(m, i, j):
				out[i][j] = allowed(g, m, i, j)
			}
		}
	}
	for k := range n {
		for i := range n {
			for j := range n {
				if over := out[i][k] + out[k][j]; out[i][k] >= 0 && out[k][j] >= 0 && (out[i][j] < 0 || over < out[i][j]) {
					out[i][j] = over
				}
			}
		}
	}
	return out
}

// volume is what lies between two beds.
func volume(above, below api.Grid) int {
	out := 0
	for i := range above.Levels {
		if known(above, i) {
			out += (above.Levels[i] - below.Levels[i]) * above.Side * above.Side
		}
	}
	return out
}

// checkSlump fails the test unless a grid slumps and heaps to these grids.
func checkSlump(t *testing.T, g api.Ground, m, low, high api.Grid) {
	t.Helper()
	got, n, e := soil.Slump(g, m)
	same(t, e, api.OK, "Slump", g, m)
	sameGrid(t, got, low, "Slump", g, m)
	same(t, n, volume(m, low), "what falls", g, m)
	got, n, e = soil.Heap(g, m)
	same(t, e, api.OK, "Heap", g, m)
	sameGrid(t, got, high, "Heap", g, m)
	same(t, n, volume(high, m), "what is added", g, m)
	same(t, soil.CheckSlump(g, m, low), api.OK, "CheckSlump", g, m, low)
}

func TestP65Example(t *testing.T) {
	m := row(-500, -550)
	got, n, e := soil.Slump(example(), m)
	same(t, e, api.OK, "Slump")
	same(t, n, 400000, "Slump")
	sameGrid(t, got, row(-540, -550), "Slump")
	got, n, e = soil.Heap(example(), m)
	same(t, e, api.OK, "Heap")
	same(t, n, 400000, "Heap")
	sameGrid(t, got, row(-500, -510), "Heap")
}

func TestP65Slump(t *testing.T) {
	square := frame(0, 0, 100, 3, 3)
	for _, x := range []struct {
		g            api.Ground
		m, low, high api.Grid
	}{
		{example(), row(-500, -550), row(-540, -550), row(-500, -510)},
		{example(), row(-550, -500), row(-550, -540), row(-510, -500)},
		{example(), row(-500, -510), row(-500, -510), row(-500, -510)}, // stable already
		{example(), row(-500, -511), row(-501, -511), row(-500, -510)},
		{example(), row(-500), row(-500), row(-500)},
		{example(), row(u), row(u), row(u)},
		{example(), row(u, u), row(u, u), row(u, u)},
		{example(), row(-500, -550, -550), row(-540, -550, -550), row(-500, -510, -520)},
		{example(), row(-500, -500, -500, -500, -600), row(-560, -570, -580, -590, -600), row(-500, -500, -500, -500, -510)},
		{example(), row(-600, -500, -500, -500, -500), row(-600, -590, -580, -570, -560), row(-510, -500, -500, -500, -500)},
		{example(), row(-500, -500, -600, -500, -500), row(-580, -590, -600, -590, -580), row(-500, -500, -510, -500, -500)},
		{example(), row(0, -30, -60, 0, -30), row(-40, -50, -60, -50, -40), row(0, -10, -10, 0, -10)},
		{example(), pile(-500, -550, -550), pile(-540, -550, -550), pile(-500, -510, -520)},
		// An unknown cell holds nothing, and nothing falls over it.
		{example(), row(-500, u, -900), row(-500, u, -900), row(-500, u, -900)},
		{example(), row(-500, -600, u, -900), row(-590, -600, u, -900), row(-500, -510, u, -900)},
		{example(), with(frame(0, 0, 100, 2, 2), 0, u, u, 50), with(frame(0, 0, 100, 2, 2), 0, u, u, 50), with(frame(0, 0, 100, 2, 2), 0, u, u, 50)},
		{example(), with(square, 0, u, 100, 0, u, 100, 0, 50, 100), with(square, 0, u, 40, 0, u, 30, 0, 10, 20), with(square, 60, u, 100, 70, u, 100, 80, 90, 100)},
		// The end of a row is no neighbour of the beginning of the next one.
		{example(), with(frame(0, 0, 100, 2, 2), 0, 10, 0, 10), with(frame(0, 0, 100, 2, 2), 0, 10, 0, 10), with(frame(0, 0, 100, 2, 2), 0, 10, 0, 10)},
		{example(), changed(flat(square, -600), -500, 4), changed(flat(square, -600), -590, 4), with(square, -520, -510, -520, -510, -500, -510, -520, -510, -520)},
		{example(), changed(flat(square, -600), -700, 4), with(square, -680, -690, -680, -690, -700, -690, -680, -690, -680), changed(flat(square, -600), -610, 4)},
		// Sand beside sand may differ by 33, beside mud by 10: the first two cells have the boring B.
		{example(), with(frame(300, 0, 100, 4, 1), 0, 0, 0, -100), with(frame(300, 0, 100, 4, 1), -47, -57, -67, -100), with(frame(300, 0, 100, 4, 1), 0, 0, 0, -33)},
		// The ends of all levels.
		{uniform(1), with(frame(0, 0, 10000, 2, 1), highest, -highest), with(frame(0, 0, 10000, 2, 1), highest, -highest), with(frame(0, 0, 10000, 2, 1), highest, -highest)},
		{uniform(1000), row(highest, -highest), row(-highest+1, -highest), row(highest, highest-1)},
	} {
		checkSlump(t, x.g, x.m, x.low, x.high)
	}
}

func TestP65Computed(t *testing.T) {
	s := &numbers{65}
	for range 400 {
		most := []int{100, 1000, 3000, farthest}[s.next(4)]
		g, m := s.ground(most), s.grid(most, 6)
		low, high := ends(g, m)
		checkSlump(t, g, m, low, high)
	}
}

// snake is a grid in which one lane of cells winds up and down, far longer than the grid is wide.
func snake(level int) api.Grid {
	m := flat(frame(0, 0, 100, 32, 32), u)
	for i := range m.Levels {
		col, row := i%32, i/32
		if col%2 == 0 || col%4 == 1 && row == 31 || col%4 == 3 && row == 0 {
			m.Levels[i] = level
		}
	}
	return m
}

// The most cells, and the longest way that a cell may fall along, from either end.
func TestP65Largest(t *testing.T) {
	for _, start := range []int{0, 31} {
		m := changed(snake(5000), -1000, start)
		got, n, e := soil.Slump(uniform(1000), m)
		same(t, e, api.OK, "Slump", start)
		same(t, n, volume(m, got), "what falls", start)
		seen := map[int]bool{}
		for i, steps := start, 0; !seen[i]; steps++ {
			same(t, got.Levels[i], -1000+steps, "a cell of the lane", i)
			seen[i] = true
			for j := range m.Levels {
				if beside(m, i, j) && known(m, j) && !seen[j] {
					i = j
					break
				}
			}
		}
		same(t, len(seen), 512+16, "cells of the lane")
		same(t, soil.CheckSlump(uniform(1000), m, got), api.OK, "CheckSlump", start)
		up, more, e := soil.Heap(uniform(1000), changed(snake(-5000), 1000, start))
		same(t, e, api.OK, "Heap", start)
		same(t, more, n, "what is added", start)
		for i := range m.Levels {
			same(t, up.Levels[i] == -got.Levels[i] || !known(m, i), true, "a cell upside down", i)
		}
	}
	full := changed(flat(frame(0, 0, 100, 32, 32), highest), -highest, 0, 1023)
	got, _, e := soil.Slump(uniform(1000), full)
	same(t, e, api.OK, "Slump")
	for i, level := range got.Levels {
		away := i%32 + i/32
		same(t, level, -highest+min(away, 62-away), "Slump", i)
	}
}

func TestP65CheckSlump(t *testing.T) {
	for _, x := range []struct {
		m, after api.Grid
		want     api.Errno
	}{
		{row(-500, -550), row(-540, -550), api.OK},
		{row(-500, -550), row(-541, -550), api.ErrProof}, // nothing holds it there
		{row(-500, -550), row(-539, -550), api.ErrProof}, // not stable
		{row(-500, -550), row(-550, -550), api.ErrProof},
		{row(-500, -550), row(-560, -550), api.ErrProof},
		{row(-500, -550), row(-500, -550), api.ErrProof},
		{row(-500, -550), row(-500, -510), api.ErrProof}, // a cell is higher
		{row(-541, -550), row(-540, -550), api.ErrProof}, // and stands as high as it may
		{row(-550, -541), row(-550, -540), api.ErrProof},
		{row(-500, -550), row(-539, -549), api.ErrProof},
		{row(-500, -550), row(-541, -551), api.ErrProof},
		{row(-500, -550), row(-540, u), api.ErrProof}, // not the same cells are known
		{row(-500, -550), row(u, -550), api.ErrProof},
		{row(-500, u), row(-500, -550), api.ErrProof},
		{row(-500, u), row(-500, -490), api.ErrProof},
		{row(u, -550), row(-540, -550), api.ErrProof},
		{row(u, -500), row(-500, -500), api.ErrProof},
		{row(-500, u), row(u, -500), api.ErrProof},
		{row(-500, u), row(-500, u), api.OK},
		{row(-500, u), row(-501, u), api.ErrProof},
		{row(u, u), row(u, u), api.OK},
		{row(-500), row(-500), api.OK},
		{row(-500), row(-501), api.ErrProof},
		{row(-500, -500), row(-500, -500), api.OK},
		{row(-500, -500), row(-510, -500), api.ErrProof}, // its neighbour is higher
		{row(-500, -500), row(-505, -515), api.ErrProof}, // the last one of those that hold each other is held by none
		{row(-500, -500, -550), row(-530, -540, -550), api.OK},
		{row(-500, -500, -550), row(-530, -539, -550), api.ErrProof},
		{row(-500, -500, -550), row(-529, -540, -550), api.ErrProof},
		{row(-500, -500, -550), row(-531, -540, -550), api.ErrProof},
		{row(-550, -500, -550), row(-550, -540, -550), api.OK}, // both hold it
		{row(-550, -500, -548), row(-550, -540, -548), api.OK},
		{row(-548, -500, -550), row(-548, -540, -550), api.OK},
		{row(-548, -500, -550), row(-548, -538, -550), api.ErrProof},
		{row(-548, -500, u), row(-548, -538, u), api.OK},
		{pile(-500, -500, -550), pile(-530, -540, -550), api.OK},
		{pile(-500, -500, -550), pile(-530, -541, -550), api.ErrProof},
		// A cell at the end of a row does not hold the beginning of the next one.
		{with(frame(0, 0, 100, 2, 2), 0, -10, 0, 0), with(frame(0, 0, 100, 2, 2), 0, -10, 0, 0), api.OK},
		{with(frame(0, 0, 100, 2, 2), 0, -20, 10, -10), with(frame(0, 0, 100, 2, 2), -10, -20, 0, -10), api.OK},
		{with(frame(0, 0, 100, 2, 2), u, -20, 10, u), with(frame(0, 0, 100, 2, 2), u, -20, -10, u), api.ErrProof},
	} {
		same(t, soil.CheckSlump(example(), x.m, x.after), x.want, "CheckSlump", x)
	}
}

// shifted is a grid in which some known cells are lower or higher.
func (s *numbers) shifted(m api.Grid, most int) api.Grid {
	m = with(m, slices.Clone(m.Levels)...)
	for i := range m.Levels {
		if known(m, i) && s.next(3) == 0 {
			m.Levels[i] += s.around(most)
		}
	}
	return m
}

// Grids near the right one, and others.
func TestP65CheckSlumpComputed(t *testing.T) {
	s := &numbers{66}
	right := 0
	for range 2500 {
		g, m := s.ground(1000), s.grid(1000, 3)
		after, _ := ends(g, m)
		i := s.next(len(m.Levels))
		switch s.next(8) {
		case 0:
			after.Levels[i] = s.around(300) - 600
		case 1:
			after.Levels[i] = u
		case 2:
			after = s.shifted(after, 2)
		case 3: // stable, but slumped from another grid
			after, _ = ends(g, s.shifted(m, 100))
		case 4:
			m = s.shifted(m, 2)
		case 5:
			m = s.shifted(m, 100)
		case 6:
			m = changed(m, u, i)
		}
		low, _ := ends(g, m)
		want := api.ErrProof
		if slices.Equal(after.Levels, low.Levels) {
			want = api.OK
			right++
		}
		same(t, soil.CheckSlump(g, m, after), want, "CheckSlump", g, m, after)
	}
	same(t, right > 300 && right < 2000, true, "right grids and others are looked at", right)
}
