package channel_test

import (
	"testing"

	"draghead/api"
	"draghead/channel"
)

func TestP53Grids(t *testing.T) {
	for _, x := range []struct {
		c    api.Channel
		g    api.Grid
		want []int
	}{
		{example(), strip(-900), strip(-1000).Levels},
		{example(), flat(frame(-250, -250, 500, 2, 1), u), []int{-1000, -1000}}, // the centre of the first one is at 0
		{example(), flat(frame(-251, -250, 500, 2, 1), u), []int{u, -1000}},
		{example(), flat(frame(9750, -250, 500, 2, 1), 7), []int{-1000, u}},
		{example(), flat(frame(0, 750, 500, 1, 4), 7), []int{-1000, -875, -750, -625}},
		{example(), flat(frame(0, 954, 101, 1, 2), 7), []int{-999, -974}}, // the centres at 1004 and 1105: 50 of 101
		{example(), flat(frame(0, 953, 101, 1, 2), 7), []int{-1000, -974}},
		{example(), flat(frame(0, 80000, 10000, 1, 2), 7), []int{highest, u}},
		{bent(), flat(frame(1990, 301, 100, 2, 2), 7), []int{-902, -907, -270, -320}},
		{bent(), flat(frame(4000, -600, 200, 3, 4), 7), []int{-1000 + (510-500)/2, -1000 + (584-500)/2, -1000 + (708-500)/2, -1000, -1000, -1000 + (584-500)/2, -1000, -1000, -1000 + (510-500)/2, -1000, -1000, -1000}},
	} {
		got, e := channel.DesignGrid(x.c, x.g)
		same(t, e, api.OK, "DesignGrid", x)
		sameGrid(t, got, with(x.g, x.want...), "DesignGrid", x)
		var lower []int
		for _, level := range x.want {
			if level != u {
				level -= x.c.Over
			}
			lower = append(lower, level)
		}
		got, e = channel.ToleranceGrid(x.c, x.g)
		same(t, e, api.OK, "ToleranceGrid", x)
		sameGrid(t, got, with(x.g, lower...), "ToleranceGrid", x)
	}
	// The lowest design with the greatest allowance.
	deep := straight(axis(0, 0, 1000, -19000, 0), axis(10000, 0, 1000, -19000, 0))
	deep.Over = 1000
	got, e := channel.ToleranceGrid(deep, strip(u))
	same(t, e, api.OK, "ToleranceGrid")
	sameGrid(t, got, strip(-highest), "ToleranceGrid of the deepest channel")
}

func TestP53GridsComputed(t *testing.T) {
	s := &numbers{53}
	for range 1500 {
		most := []int{300, 3000, 30000, farthest}[s.next(4)]
		c, g := s.channel(most), s.grid(most)
		high, low := with(g), with(g)
		for i := range g.Levels {
			level, _ := design(c, centreOf(g, i))
			high.Levels = append(high.Levels, level)
			if level != u {
				level -= c.Over
			}
			low.Levels = append(low.Levels, level)
		}
		got, e := channel.DesignGrid(c, g)
		same(t, e, api.OK, "DesignGrid", c, g)
		sameGrid(t, got, high, "DesignGrid", c, g)
		got, e = channel.ToleranceGrid(c, g)
		same(t, e, api.OK, "ToleranceGrid", c, g)
		sameGrid(t, got, low, "ToleranceGrid", c, g)
	}
}
