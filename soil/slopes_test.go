package soil_test

import (
	"math"
	"testing"

	"draghead/api"
	"draghead/soil"
)

func steep(high, low, over int) api.Steep { return api.Steep{High: high, Low: low, Over: over} }

func TestP64Allowed(t *testing.T) {
	wide := func(side int) api.Grid { return flat(frame(0, 0, side, 2, 1), u) } // whether cells are known does not matter
	for _, x := range []struct {
		g          api.Ground
		m          api.Grid
		a, b, want int
	}{
		{example(), row(-500, -550), 0, 1, 10},
		{example(), row(-500, -550), 1, 0, 10},
		{example(), with(frame(900, 0, 100, 2, 1), 0, 0), 0, 1, 33}, // 1000 / 30, both cells have the boring C
		{example(), with(frame(400, 0, 100, 2, 1), 0, 0), 0, 1, 10}, // one of them has the boring B
		{example(), with(frame(400, 0, 100, 2, 1), 0, 0), 1, 0, 10},
		{example(), with(frame(500, 0, 100, 2, 1), 0, 0), 0, 1, 33},
		{uniform(30), wide(101), 0, 1, 33},
		{uniform(30), wide(102), 0, 1, 34},
		{uniform(1000), wide(100), 0, 1, 1},
		{uniform(999), wide(199), 0, 1, 1},
		{uniform(1), wide(10000), 0, 1, 100000},
		{uniform(1000), wide(10000), 0, 1, 100},
		// All layers count, also one far below, and no soil that is not there.
		{api.Ground{Soils: soils(900, 20, 50, 40), Borings: []api.Boring{boring("B", 0, 0, layer(0, "b"), layer(-5, "d"), layer(-20000, "c"))}}, wide(100), 0, 1, 20},
		{api.Ground{Soils: soils(50, 20), Borings: []api.Boring{boring("B", 0, 0, layer(0, "b"), layer(-5, "a"), layer(-6, "b"))}}, wide(100), 0, 1, 20},
		{example(), flat(frame(0, 0, 100, 3, 3), 0), 4, 1, 10},
		{example(), flat(frame(0, 0, 100, 3, 3), 0), 4, 3, 10},
		{example(), flat(frame(0, 0, 100, 3, 3), 0), 4, 5, 10},
		{example(), flat(frame(0, 0, 100, 3, 3), 0), 4, 7, 10},
	} {
		got, e := soil.Allowed(x.g, x.m, x.a, x.b)
		same(t, e, api.OK, "Allowed", x)
		same(t, got, x.want, "Allowed", x)
	}
	m := flat(frame(0, 0, 100, 3, 3), 0)
	for _, x := range []struct {
		a, b int
		want api.Errno
	}{
		{-1, 0, api.ErrMissing}, {0, -1, api.ErrMissing}, {9, 8, api.ErrMissing}, {8, 9, api.ErrMissing}, {-1, -1, api.ErrMissing},
		{0, math.MaxInt, api.ErrMissing}, {math.MinInt, 0, api.ErrMissing}, {7, 10, api.ErrMissing}, {0, 12, api.ErrMissing},
		{0, 0, api.ErrForm}, {0, 2, api.ErrForm}, {0, 4, api.ErrForm}, {4, 0, api.ErrForm}, {2, 3, api.ErrForm}, {3, 2, api.ErrForm}, {0, 6, api.ErrForm}, {8, 0, api.ErrForm},
	} {
		same(t, of(soil.Allowed(example(), m, x.a, x.b)), refused(x.want), "Allowed", x)
	}
}

func TestP64Steeps(t *testing.T) {
	for _, x := range []struct {
		g    api.Ground
		m    api.Grid
		want []api.Steep
	}{
		{example(), row(-500, -550), []api.Steep{steep(0, 1, 40)}},
		{example(), row(-550, -500), []api.Steep{steep(1, 0, 40)}},
		{example(), row(-500, -510), nil},
		{example(), row(-500, -511), []api.Steep{steep(0, 1, 1)}},
		{example(), row(-511, -500), []api.Steep{steep(1, 0, 1)}},
		{example(), row(-500), nil},
		{example(), row(-500, u), nil},
		{example(), row(u, -500), nil},
		{example(), row(-500, u, -900), nil},
		{example(), row(u, u), nil},
		{example(), row(-500, -550, -550), []api.Steep{steep(0, 1, 40)}},
		{example(), row(-500, -550, -530), []api.Steep{steep(0, 1, 40), steep(2, 1, 10)}},
		{example(), pile(-500, -550, -530), []api.Steep{steep(0, 1, 40), steep(2, 1, 10)}},
		{example(), with(frame(900, 0, 100, 2, 1), -600, -650), []api.Steep{steep(0, 1, 17)}},
		{example(), row(highest, -highest), []api.Steep{steep(0, 1, 39990)}},
		// The end of a row is no neighbour of the beginning of the next one, nor are cells that touch at a corner.
		{example(), with(frame(0, 0, 100, 2, 2), 0, 10, 0, 10), nil},
		{example(), with(frame(0, 0, 100, 2, 2), 0, 10, 10, 20), nil},
		{example(), with(frame(0, 0, 100, 3, 2), 0, 9, 18, 0, 9, 18), nil},
		{example(), with(frame(0, 0, 100, 3, 2), 0, u, 50, 0, u, 50), nil},
		// Ordered by the lesser cell, then by the greater one.
		{example(), changed(flat(frame(0, 0, 100, 3, 3), -500), -400, 4), []api.Steep{steep(4, 1, 90), steep(4, 3, 90), steep(4, 5, 90), steep(4, 7, 90)}},
		{example(), changed(flat(frame(0, 0, 100, 3, 3), -500), -600, 4), []api.Steep{steep(1, 4, 90), steep(3, 4, 90), steep(5, 4, 90), steep(7, 4, 90)}},
		{example(), with(frame(0, 0, 100, 2, 2), 0, 20, 20, 0), []api.Steep{steep(1, 0, 10), steep(2, 0, 10), steep(1, 3, 10), steep(2, 3, 10)}},
	} {
		got, e := soil.Steeps(x.g, x.m)
		same(t, e, api.OK, "Steeps", x)
		sameList(t, got, x.want, "Steeps", x)
	}
}

func TestP64Computed(t *testing.T) {
	s := &numbers{64}
	found := 0
	for range 600 {
		most := []int{100, 1000, 3000, farthest}[s.next(4)]
		g, m := s.ground(most), s.grid(most, 6)
		var want []api.Steep
		for a := range m.Levels {
			for b := a + 1; b < len(m.Levels); b++ {
				if !beside(m, a, b) {
					same(t, of(soil.Allowed(g, m, a, b)), refused(api.ErrForm), "Allowed", g, m, a, b)
					continue
				}
				n, e := soil.Allowed(g, m, a, b)
				same(t, e, api.OK, "Allowed", g, m, a, b)
				same(t, n, allowed(g, m, a, b), "Allowed", g, m, a, b)
				if !known(m, a) || !known(m, b) {
					continue
				}
				if m.Levels[a]-m.Levels[b] > n {
					want = append(want, steep(a, b, m.Levels[a]-m.Levels[b]-n))
				}
				if m.Levels[b]-m.Levels[a] > n {
					want = append(want, steep(b, a, m.Levels[b]-m.Levels[a]-n))
				}
			}
		}
		got, e := soil.Steeps(g, m)
		same(t, e, api.OK, "Steeps", g, m)
		sameList(t, got, want, "Steeps", g, m)
		found += min(1, len(want))
	}
	same(t, found > 200 && found < 590, true, "all kinds of grids are looked at", found)
}
