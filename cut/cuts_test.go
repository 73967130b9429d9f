package cut_test

import (
	"testing"

	"draghead/api"
	"draghead/cut"
)

// layered is a site whose cells have the side 100: below -500 there are 10 of mud, then sand, and at X 1000 clay.
func layered(levels ...int) api.Site {
	s := example(levels...)
	s.Bed.Side = 100
	s.Ground = api.Ground{
		Soils: []api.Soil{kind("sand", 100), kind("clay", 10), kind("mud", 200)},
		Borings: []api.Boring{
			boring("A", 50, 50, layer(-500, "mud"), layer(-510, "sand")),
			boring("B", 1000, 50, layer(0, "clay")),
		},
	}
	s.Dredgers[0].Outputs = []api.Output{output("mud", 2, 30), output("clay", 1, 500), output("sand", 1, 70)}
	return s
}

func TestP72Footprint(t *testing.T) {
	s := wide(4, 3)
	s.Bed.Levels = []int{-500, u, -500, -500, highest, -highest, u, 0, 0, 0, 0, 0}
	for _, x := range []struct {
		c    api.Cut
		want []int
	}{
		{area("a", 0, 0, 1, 1, 0, 0), []int{0}},
		{area("a", 1, 0, 2, 2, 0, 0), []int{1, 2, 5, 6}},
		{area("a", 3, 0, 1, 3, 0, 0), []int{3, 7, 11}},
		{area("a", 0, 2, 4, 1, 0, 0), []int{8, 9, 10, 11}},
		{area("a", 2, 1, 2, 2, 0, 0), []int{6, 7, 10, 11}},
		{area("a", 0, 0, 4, 3, 0, 0), []int{0, 1, 2, 3, 4, 5, 6, 7, 8, 9, 10, 11}},
	} {
		got, e := cut.Footprint(s, x.c)
		same(t, e, api.OK, "Footprint", x)
		sameList(t, got, x.want, "Footprint", x)
	}
}

func TestP72Lowered(t *testing.T) {
	s := wide(4, 2)
	m := with(s.Bed, -500, -501, u, -499, highest, -highest, -500, -500)
	for _, x := range []struct {
		c    api.Cut
		want []int
	}{
		{area("a", 0, 0, 4, 2, -500, 0), []int{-500, -501, u, -500, -500, -highest, -500, -500}},
		{area("a", 0, 0, 1, 1, -700, 0), []int{-700, -501, u, -499, highest, -highest, -500, -500}},
		{area("a", 1, 0, 2, 2, -highest, 0), []int{-500, -highest, u, -499, highest, -highest, -highest, -500}},
		{area("a", 0, 0, 4, 2, highest, 0), m.Levels},
		{area("a", 0, 1, 4, 1, highest-1, 0), []int{-500, -501, u, -499, highest - 1, -highest, -500, -500}},
	} {
		got, e := cut.Lowered(s, m, x.c)
		same(t, e, api.OK, "Lowered", x)
		sameGrid(t, got, with(m, x.want...), "Lowered", x)
	}
}

func TestP72Amounts(t *testing.T) {
	const cell = 10000
	for _, x := range []struct {
		c                api.Cut
		levels           []int
		sand, clay, mud  int
		minutes, wearing int
	}{
		// 10 of mud: 100000 cubic centimetres: 60 / 20, and 3 of wear
		{strip("a", 0, 1, -510, 0), []int{-500}, 0, 0, 10 * cell, 3, 3},
		// 1 of mud: 0.3 minutes and 0.3 cents, both rounded up
		{strip("a", 0, 1, -501, 0), []int{-500}, 0, 0, cell, 1, 1},
		// with 1 of sand: 3 and 0.6 minutes, 3 and 0.7 cents
		{strip("a", 0, 1, -511, 0), []int{-500}, cell, 0, 10 * cell, 4, 4},
		// 5 of mud and 5 of sand: 1.5 and 3 minutes, 1.5 and 3.5 cents: each one is rounded up
		{strip("a", 0, 1, -515, 0), []int{-505}, 5 * cell, 0, 5 * cell, 5, 6},
		// what is above the first layer is of its soil, too
		{strip("a", 0, 1, -400, 0), []int{-390}, 0, 0, 10 * cell, 3, 3},
		// two cells with 0.3 minutes each: they are rounded up together
		{strip("a", 0, 2, -501, 0), []int{-500, -500}, 0, 0, 2 * cell, 1, 1},
		{strip("a", 0, 2, -501, 0), []int{-500, -501}, 0, 0, cell, 1, 1},
		{strip("a", 0, 2, -501, 0), []int{-500, u}, 0, 0, cell, 1, 1},
		{strip("a", 0, 2, -500, 0), []int{-500, -600}, 0, 0, 0, 0, 0},
		{strip("a", 0, 1, -500, 0), []int{u}, 0, 0, 0, 0, 0},
		{strip("a", 1, 1, -500, 0), []int{0, -500, 0}, 0, 0, 0, 0, 0},
		// the cell 5 (550, 50) has the boring B: 2 of clay: 1.2 minutes, 10 cents; the cell 4 1 of mud
		{strip("a", 4, 2, -502, 0), []int{0, 0, 0, 0, -501, -500}, 0, 2 * cell, cell, 2 + 1, 10 + 1},
		{strip("a", 0, 6, -502, 0), []int{-502, -502, -502, -502, -502, -500}, 0, 2 * cell, 0, 2, 10},
	} {
		s := layered(make([]int, len(x.levels))...) // its own bed does not matter
		m := with(s.Bed, x.levels...)
		got, e := cut.Taken(s, m, x.c)
		same(t, e, api.OK, "Taken", x)
		sameList(t, got, []api.Share{{Soil: "sand", Volume: x.sand}, {Soil: "clay", Volume: x.clay}, {Soil: "mud", Volume: x.mud}}, "Taken", x)
		n, e := cut.Minutes(s, m, x.c)
		same(t, e, api.OK, "Minutes", x)
		same(t, n, x.minutes, "Minutes", x)
		for _, hour := range []int{0, 1, 59, 60, 61, 6000, 1000000} {
			s.Dredgers[0].Hour = hour
			n, e = cut.Price(s, m, x.c)
			same(t, e, api.OK, "Price", x, hour)
			same(t, n, x.wearing+ceil(x.minutes*hour, 60), "Price", x, hour)
		}
	}
}

func TestP72Example(t *testing.T) {
	s, c := level(), strip("a", 0, 2, -600, 0)
	got, e := cut.Taken(s, s.Bed, c)
	same(t, e, api.OK, "Taken")
	sameList(t, got, []api.Share{{Soil: "sand", Volume: 200000000}}, "Taken")
	n, e := cut.Minutes(s, s.Bed, c)
	same(t, e, api.OK, "Minutes")
	same(t, n, 120, "Minutes")
	n, e = cut.Price(s, s.Bed, c)
	same(t, e, api.OK, "Price")
	same(t, n, 22000, "Price")
}

func TestP72NoOutput(t *testing.T) {
	s := layered(-500, -500)
	s.Dredgers[0].Outputs = s.Dredgers[0].Outputs[:2] // mud and clay
	for level, want := range map[int]api.Errno{-500: api.OK, -510: api.OK, -511: api.ErrMissing, -highest: api.ErrMissing} {
		c := strip("a", 0, 2, level, 0)
		n, e := cut.Minutes(s, s.Bed, c)
		same(t, e, want, "Minutes", level)
		same(t, e == api.OK || n == 0, true, "Minutes", level, n)
		n, e = cut.Price(s, s.Bed, c)
		same(t, e, want, "Price", level)
		same(t, e == api.OK || n == 0, true, "Price", level, n)
		l, e := cut.Taken(s, s.Bed, c) // whatever takes it
		same(t, e, api.OK, "Taken", level)
		same(t, len(l), 3, "Taken", level)
		m, e := cut.Lowered(s, s.Bed, c)
		same(t, e, api.OK, "Lowered", level)
		sameGrid(t, m, with(s.Bed, level, level), "Lowered", level)
	}
	s.Dredgers[0].Outputs = nil
	n, e := cut.Price(s, s.Bed, strip("a", 0, 2, -500, 0))
	same(t, of(n, e), refused(api.OK), "Price of nothing")
}

// The greatest volume there is, at the least rate and the greatest prices.
func TestP72Greatest(t *testing.T) {
	s := example(0)
	s.Bed = flat(frame(0, 0, 10000, 32, 32), highest)
	s.Dredgers[0].Outputs, s.Dredgers[0].Hour = []api.Output{output("sand", 1, 1000)}, 1000000
	c := area("a", 0, 0, 32, 32, -highest, 0)
	const volume = 1024 * 10000 * 10000 * 40000
	l, e := cut.Taken(s, s.Bed, c)
	same(t, e, api.OK, "Taken")
	sameList(t, l, []api.Share{{Soil: "sand", Volume: volume}}, "Taken")
	n, e := cut.Minutes(s, s.Bed, c)
	same(t, e, api.OK, "Minutes")
	same(t, n, volume/1000000*60, "Minutes")
	n, e = cut.Price(s, s.Bed, c)
	same(t, e, api.OK, "Price")
	same(t, n, volume/1000000*1000+volume/1000000*1000000, "Price")
	v, is, e := cut.Refusal(s, s.Bed, c)
	same(t, e == api.OK && is, true, "Refusal", e)
	same(t, v, violation(0, 0, api.ErrForm), "Refusal")
}

func TestP72Computed(t *testing.T) {
	s := &numbers{72}
	lacking, several := 0, 0
	for range 600 {
		site := s.site(5, 3)
		m := s.again(site.Bed, 3)
		for _, c := range s.cuts(site, 3) {
			cells, e := cut.Footprint(site, c)
			same(t, e, api.OK, "Footprint", site, c)
			sameList(t, cells, cellsOf(m, c), "Footprint", site, c)
			after, e := cut.Lowered(site, m, c)
			same(t, e, api.OK, "Lowered", site, c)
			sameGrid(t, after, bedAfter(m, c), "Lowered", site, m, c)
			shares, e := cut.Taken(site, m, c)
			same(t, e, api.OK, "Taken", site, c)
			sameList(t, shares, taken(site, m, c), "Taken", site, m, c)
			minutes, price, is := effort(site, m, c)
			want := unless(is, api.ErrMissing)
			got, e := cut.Minutes(site, m, c)
			same(t, e, want, "Minutes", site, m, c)
			same(t, got, minutes, "Minutes", site, m, c)
			got, e = cut.Price(site, m, c)
			same(t, e, want, "Price", site, m, c)
			same(t, got, price, "Price", site, m, c)
			if !is {
				lacking++
			}
			if minutes > 60 && len(site.Ground.Soils) > 1 {
				several++
			}
		}
	}
	same(t, lacking > 100 && several > 100, true, "all kinds of cuts are looked at", lacking, several)
}
