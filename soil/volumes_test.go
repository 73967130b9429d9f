package soil_test

import (
	"testing"

	"draghead/api"
	"draghead/soil"
)

func share(name string, volume int) api.Share { return api.Share{Soil: name, Volume: volume} }

func TestP63Shares(t *testing.T) {
	for _, x := range []struct {
		before, after api.Grid
		sand, mud     int
	}{
		{row(-650), row(-750), 50, 50},
		{row(-650), row(-650), 0, 0},
		{row(-750), row(-650), 0, 0}, // it became higher
		{row(-650), row(u), 0, 0},
		{row(u), row(-650), 0, 0},
		{row(u), row(u), 0, 0},
		{row(-400), row(-800), 100, 300},
		{row(-700), row(-701), 1, 0},
		{row(-699), row(-700), 0, 1},
		{row(-400, -400, u, -900), row(-450, -300, -900, u), 0, 50},
		// The centres at x = 450 and 550 have the borings B and C.
		{with(frame(400, 0, 100, 2, 1), -650, -650), with(frame(400, 0, 100, 2, 1), -750, -750), 150, 50},
		{with(frame(450, 0, 100, 1, 1), -650), with(frame(450, 0, 100, 1, 1), -750), 50, 50}, // at 500
		{with(frame(451, 0, 100, 1, 1), -650), with(frame(451, 0, 100, 1, 1), -750), 100, 0}, // at 501
		{with(frame(450, 0, 101, 1, 1), -650), with(frame(450, 0, 101, 1, 1), -750), 50, 50}, // halves rounded down
		{pile(-650, -650, -650), pile(-750, -660, -640), 50, 60},
	} {
		got, e := soil.Shares(example(), x.before, x.after)
		same(t, e, api.OK, "Shares", x)
		area := x.before.Side * x.before.Side
		sameList(t, got, []api.Share{share("sand", area*x.sand), share("mud", area*x.mud)}, "Shares", x)
	}
	// The order is that of the soils, and the same soil in two layers counts together.
	g := layered()
	g.Soils = append(soils(1, 2, 3)[1:], kind("a", 1, 1, 1, 1), kind("z", 1, 1, 1, 1))
	got, e := soil.Shares(g, row(0), row(-400))
	same(t, e, api.OK, "Shares")
	sameList(t, got, []api.Share{share("b", 1000000), share("c", 990000), share("a", 2010000), share("z", 0)}, "Shares")
	// The most.
	most := flat(frame(-farthest, -farthest, 10000, 32, 32), highest)
	got, e = soil.Shares(uniform(5), most, flat(most, -highest))
	same(t, e, api.OK, "Shares")
	sameList(t, got, []api.Share{share("a", 1024*100000000*40000)}, "Shares")
}

// Centimetre by centimetre of each cell.
func TestP63Computed(t *testing.T) {
	s := &numbers{63}
	for range 400 {
		most := []int{100, 1000, 3000, farthest}[s.next(4)]
		g, before := s.ground(most), s.grid(most, 5)
		after := s.again(before)
		heights := map[string]int{}
		for i, level := range before.Levels {
			for ; known(before, i) && known(after, i) && level > after.Levels[i]; level-- {
				heights[soilOf(g, centreOf(before, i), level)]++
			}
		}
		var want []api.Share
		for _, k := range g.Soils {
			want = append(want, share(k.Name, before.Side*before.Side*heights[k.Name]))
		}
		got, e := soil.Shares(g, before, after)
		same(t, e, api.OK, "Shares", g, before, after)
		sameList(t, got, want, "Shares", g, before, after)
	}
}
