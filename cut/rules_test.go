package cut_test

import (
	"testing"

	"draghead/api"
	"draghead/cut"
)

// sameRefusal fails the test unless the cut is refused by this rule at this cell; OK: it is accepted.
func sameRefusal(t *testing.T, s api.Site, m api.Grid, c api.Cut, rule api.Errno, cell int, about ...any) {
	t.Helper()
	v, is, e := cut.Refusal(s, m, c)
	same(t, e, api.OK, "Refusal: the error", about...)
	same(t, is, rule != api.OK, "Refusal: whether there is one", about...)
	same(t, v, violation(0, cell, rule), "Refusal", about...)
}

// siteWith is the site of the examples with so many columns and rows, and something changed.
func siteWith(cols, rows int, change func(s *api.Site, d *api.Dredger)) api.Site {
	s := wide(cols, rows)
	s.Dredgers[0].Across, s.Dredgers[0].Along = 100, 100
	change(&s, &s.Dredgers[0])
	return s
}

// bedOf is the site of the examples with these levels in one row.
func bedOf(levels ...int) api.Site {
	return siteWith(len(levels), 1, func(s *api.Site, d *api.Dredger) { s.Bed.Levels = levels })
}

func TestP73Form(t *testing.T) {
	const cutter, trailer, backhoe = api.Cutter, api.Trailer, api.Backhoe
	for _, x := range []struct {
		kind, across, along int
		cols, rows          int
		fits                bool
	}{
		{cutter, 2, 3, 1, 1, true}, {cutter, 2, 3, 2, 3, true}, {cutter, 2, 3, 2, 1, true}, {cutter, 2, 3, 3, 2, false},
		{cutter, 2, 3, 3, 1, false}, {cutter, 2, 3, 2, 4, false}, {cutter, 3, 1, 3, 1, true}, {cutter, 3, 1, 1, 2, false},
		{trailer, 2, 3, 2, 3, true}, {trailer, 2, 3, 3, 2, true}, {trailer, 2, 3, 1, 4, true}, {trailer, 2, 3, 4, 1, true},
		{trailer, 2, 3, 2, 2, false}, {trailer, 2, 3, 1, 2, false}, {trailer, 2, 3, 3, 3, false}, {trailer, 2, 3, 4, 3, false},
		{trailer, 4, 1, 1, 1, true}, {trailer, 4, 1, 4, 4, true}, {trailer, 3, 1, 4, 4, false}, {trailer, 1, 4, 4, 1, true},
		{trailer, 1, 4, 1, 3, false},
		{backhoe, 2, 3, 2, 3, true}, {backhoe, 2, 3, 3, 2, true}, {backhoe, 2, 3, 1, 1, true}, {backhoe, 2, 3, 3, 3, false},
		{backhoe, 2, 3, 4, 1, false}, {backhoe, 2, 3, 1, 4, false}, {backhoe, 3, 2, 2, 3, true}, {backhoe, 3, 2, 3, 2, true},
		{backhoe, 1, 4, 2, 2, false}, {backhoe, 1, 4, 4, 1, true}, {backhoe, 1, 4, 1, 4, true},
	} {
		s := siteWith(5, 5, func(s *api.Site, d *api.Dredger) { d.Kind, d.Across, d.Along = x.kind, x.across, x.along })
		c := area("a", 1, 1, x.cols, x.rows, -500, 0)
		if x.fits {
			sameRefusal(t, s, s.Bed, c, api.OK, 0, x)
		} else {
			sameRefusal(t, s, s.Bed, c, api.ErrForm, 6, x)
		}
	}
}

func TestP73Unknown(t *testing.T) {
	s := siteWith(3, 2, func(s *api.Site, d *api.Dredger) {})
	m := with(s.Bed, -500, -500, u, -500, u, -500)
	sameRefusal(t, s, m, area("a", 0, 0, 2, 1, -500, 0), api.OK, 0)
	sameRefusal(t, s, m, area("a", 0, 0, 3, 1, -500, 0), api.ErrUnknown, 2)
	sameRefusal(t, s, m, area("a", 0, 0, 2, 2, -520, 0), api.ErrUnknown, 4)
	sameRefusal(t, s, m, area("a", 0, 0, 3, 2, highest, 0), api.ErrUnknown, 2)
	sameRefusal(t, s, s.Bed, area("a", 0, 0, 3, 2, -500, 0), api.OK, 0)
}

func TestP73Zones(t *testing.T) {
	none := area("a", 0, 0, 3, 3, -500, 0) // lowers nothing
	for _, x := range []struct {
		zones []api.Region
		c     api.Cut
		cell  int // -1: accepted
	}{
		{nil, none, -1},
		{[]api.Region{zone("z", 2100, 100, 2500, 100, 2500, 200)}, none, 2},    // inside of a cell
		{[]api.Region{zone("z", 2000, 100, 2500, 100, 2500, 200)}, none, 1},    // on its border
		{[]api.Region{zone("z", 2000, 2000, 2500, 2100, 2500, 2200)}, none, 4}, // at its corner
		{[]api.Region{zone("z", 2001, 2001, 2500, 2100, 2500, 2200)}, none, 8},
		{[]api.Region{zone("z", -9000, -9000, 9000, -9000, 0, 9000)}, none, 0}, // around all cells
		{[]api.Region{zone("z", 3001, 0, 4000, 0, 4000, 3000)}, none, -1},      // beside
		{[]api.Region{zone("z", 3000, 0, 4000, 0, 4000, 3000)}, none, 2},
		{[]api.Region{zone("z", 3001, 0, 4000, 0, 4000, 3000), zone("y", 500, 2500, 501, 2500, 500, 2501)}, none, 6}, // of several zones the least cell
		{[]api.Region{zone("z", 500, 2500, 501, 2500, 500, 2501), zone("y", 2500, 1500, 2501, 1500, 2500, 1501)}, none, 5},
		{[]api.Region{zone("z", 500, 500, 501, 500, 500, 501)}, area("a", 1, 0, 2, 3, -600, 0), -1}, // not in the footprint
		{[]api.Region{zone("z", -1000, -1000, -1, -1, -1, -1000)}, none, -1},
		{[]api.Region{zone("z", -1000, -1000, 0, 0, 0, -1000)}, none, 0},
		{[]api.Region{zone("z", -1000, 1500, 4000, 1501, -1000, 1502)}, area("a", 0, 0, 1, 3, -highest, 0), 3}, // across; before ErrCapacity
		{[]api.Region{zone("z", -1000, 2001, 4000, 2001, 4000, 2002)}, area("a", 0, 0, 3, 2, -500, 0), -1},
		{[]api.Region{zone("z", -9, -9, 9, -9, 9, 3009, -9, 3009), zone("y", 5, 5, 9, 5, 9, 9)}, area("a", 1, 0, 1, 1, -500, 0), -1},
	} {
		s := siteWith(3, 3, func(s *api.Site, d *api.Dredger) { s.Zones = x.zones })
		if x.cell < 0 {
			sameRefusal(t, s, s.Bed, x.c, api.OK, 0, x)
		} else {
			sameRefusal(t, s, s.Bed, x.c, api.ErrZone, x.cell, x)
		}
	}
}

func TestP73Bite(t *testing.T) {
	s := bedOf(0, 0, 0, 0)
	s.Dredgers[0].Bite, s.Ground.Soils[0].Run = 50, 1 // steep
	m := with(s.Bed, -500, -449, -450, -900)
	sameRefusal(t, s, m, strip("a", 2, 2, -500, 0), api.OK, 0)
	sameRefusal(t, s, m, strip("a", 2, 2, -501, 0), api.ErrCapacity, 2)
	sameRefusal(t, s, m, strip("a", 0, 4, -500, 0), api.ErrCapacity, 1)
	sameRefusal(t, s, m, strip("a", 0, 4, -499, 0), api.OK, 0)
	sameRefusal(t, s, m, strip("a", 0, 4, -551, 0), api.ErrCapacity, 0)
	sameRefusal(t, s, m, strip("a", 3, 1, highest, 0), api.OK, 0)
}

func TestP73Output(t *testing.T) {
	s := bedOf(0, 0, 0)
	s.Dredgers[0].Bite = 10000
	s.Ground = api.Ground{
		Soils: []api.Soil{kind("sand", 1), kind("clay", 1), kind("mud", 1)},
		Borings: []api.Boring{
			boring("A", 500, 500, layer(-500, "sand"), layer(-510, "clay"), layer(-520, "sand"), layer(-530, "mud")),
			boring("B", 2500, 500, layer(-500, "clay")),
		},
	}
	clay, mud := output("clay", 100, 0), output("mud", 100, 0)
	for _, x := range []struct {
		levels  []int
		c       api.Cut
		outputs []api.Output
		cell    int // -1: accepted
	}{
		{[]int{-500, -500, -500}, strip("a", 0, 2, -510, 0), s.Dredgers[0].Outputs, -1},
		{[]int{-500, -510, -500}, strip("a", 0, 2, -511, 0), s.Dredgers[0].Outputs, 0},
		{[]int{-520, -510, -500}, strip("a", 0, 2, -521, 0), s.Dredgers[0].Outputs, 1},
		{[]int{-520, -519, -500}, strip("a", 0, 2, -521, 0), s.Dredgers[0].Outputs, 1},
		{[]int{-520, -520, -500}, strip("a", 0, 2, -530, 0), s.Dredgers[0].Outputs, -1},
		{[]int{-520, -520, -500}, strip("a", 0, 2, -531, 0), s.Dredgers[0].Outputs, 0},
		{[]int{-510, -510, -500}, strip("a", 0, 3, -520, 0), []api.Output{clay}, -1},
		{[]int{-500, -509, -500}, strip("a", 0, 3, -511, 0), []api.Output{clay}, 0},
		{[]int{-511, -509, -500}, strip("a", 0, 3, -511, 0), []api.Output{clay}, 1},
		{[]int{-530, -900, -500}, strip("a", 0, 3, -600, 0), []api.Output{mud}, 2},
		{[]int{-530, -900, -500}, strip("a", 0, 3, -600, 0), []api.Output{mud, clay}, -1},
		{[]int{-529, -900, -500}, strip("a", 0, 3, -600, 0), []api.Output{mud, clay}, 0},
		{[]int{-500, -500, -500}, strip("a", 0, 3, -501, 0), nil, 0},
		{[]int{-501, -501, -500}, strip("a", 0, 3, -501, 0), nil, 2},
		{[]int{-501, -501, -501}, strip("a", 0, 3, -501, 0), nil, -1},
	} {
		s.Dredgers[0].Outputs = x.outputs
		if x.cell < 0 {
			sameRefusal(t, s, with(s.Bed, x.levels...), x.c, api.OK, 0, x)
		} else {
			sameRefusal(t, s, with(s.Bed, x.levels...), x.c, api.ErrMissing, x.cell, x)
		}
	}
}

// A cut of one cell by 50 in the examples takes 30 minutes.
func TestP73Time(t *testing.T) {
	for _, x := range []struct {
		rate, start, cell int // -1: accepted
	}{
		{100, 0, -1},
		{1, 0, -1},             // 3000 minutes
		{1, latest - 2999, -1}, // the last one is MaxMinute
		{1, latest - 2998, 3},
		{100, latest - 29, -1},
		{100, latest - 28, 3},
		{100, latest, 3},
		{100000, latest, -1}, // one minute
		{100000, latest - 1, -1},
		{1000, latest - 2, -1}, // three minutes
		{1000, latest - 1, 3},
		{1000, latest, 3},
	} {
		s := siteWith(3, 3, func(s *api.Site, d *api.Dredger) { d.Outputs[0].Rate = x.rate })
		s.Gauges[0].Marks[1].Minute = latest
		m := with(s.Bed, -500, -500, -500, -550, -550, -500, -600, -600, -600)
		c := area("a", 0, 1, 3, 1, -550, x.start) // the cell 5 is lowered
		if x.cell < 0 {
			sameRefusal(t, s, m, c, api.OK, 0, x)
		} else {
			sameRefusal(t, s, m, c, api.ErrLarge, x.cell, x)
		}
	}
	s := siteWith(3, 1, func(s *api.Site, d *api.Dredger) { d.Outputs[0].Rate = 1 })
	sameRefusal(t, s, s.Bed, strip("a", 0, 1, -550, 0), api.OK, 0)
	sameRefusal(t, s, s.Bed, strip("a", 0, 1, -551, 0), api.ErrLarge, 0)
	sameRefusal(t, s, s.Bed, strip("a", 1, 2, -526, 0), api.ErrLarge, 1)
	sameRefusal(t, s, s.Bed, strip("a", 1, 2, -525, 0), api.OK, 0)
	sameRefusal(t, s, s.Bed, strip("a", 0, 3, -500, latest), api.OK, 0) // lowers nothing
}

// A cut of one cell by 50 in the examples takes 30 minutes.
func TestP73Reach(t *testing.T) {
	calm, high := []api.Mark{mark(0, 0), mark(latest, 0)}, []api.Mark{mark(0, 451), mark(latest, 451)}
	for k, x := range []struct {
		gauges []api.Gauge
		cols   int
		start  int
		rule   api.Errno
		cell   int
	}{
		{[]api.Gauge{gauge("g", 0, 0, mark(10, 0), mark(39, 0))}, 1, 10, api.OK, 0},
		{[]api.Gauge{gauge("g", 0, 0, mark(10, 0), mark(39, 0))}, 1, 9, api.ErrNone, 0},
		{[]api.Gauge{gauge("g", 0, 0, mark(10, 0), mark(39, 0))}, 1, 11, api.ErrNone, 0},
		{[]api.Gauge{gauge("g", 0, 0, mark(10, 0), mark(39, 0))}, 2, 10, api.ErrNone, 0}, // 60 minutes
		{[]api.Gauge{gauge("g", 0, 0, mark(10, 450), mark(39, 0))}, 1, 10, api.OK, 0},
		{[]api.Gauge{gauge("g", 0, 0, mark(10, 451), mark(39, 0))}, 1, 10, api.ErrReach, 0},
		{[]api.Gauge{gauge("g", 0, 0, mark(10, 0), mark(39, 451))}, 1, 10, api.ErrReach, 0},
		{[]api.Gauge{gauge("g", 0, 0, mark(10, 0), mark(39, 450), mark(40, 9000))}, 1, 10, api.OK, 0},
		{[]api.Gauge{gauge("g", 0, 0, mark(10, 0), mark(25, 9000), mark(39, 0))}, 1, 10, api.ErrReach, 0},
		{[]api.Gauge{gauge("g", 0, 450, mark(10, 0), mark(39, 0))}, 1, 10, api.OK, 0},
		{[]api.Gauge{gauge("g", 0, 451, mark(10, 0), mark(39, 0))}, 1, 10, api.ErrReach, 0}, // it may be too high
		{[]api.Gauge{gauge("g", 0, 0, mark(10, 9000), mark(38, 9000))}, 1, 10, api.ErrNone, 0},
		{nil, 1, 0, api.ErrNone, 0},
		{[]api.Gauge{gauge("g", 0, 0)}, 1, 0, api.ErrNone, 0},
		// between two gauges: 451 at 500, 0 at 2500
		{[]api.Gauge{gauge("g", 500, 0, high...), gauge("h", 2500, 0, calm...)}, 1, 0, api.ErrReach, 0},
		{[]api.Gauge{gauge("g", 500, 0, calm...), gauge("h", 2500, 0, high...)}, 2, 0, api.OK, 0},
		{[]api.Gauge{gauge("g", 500, 0, calm...), gauge("h", 2500, 0, high...)}, 3, 0, api.ErrReach, 2},
		{[]api.Gauge{gauge("g", 499, 0, high...), gauge("h", 501, 0, calm...)}, 3, 0, api.OK, 0}, // 225.5 at 500
		{[]api.Gauge{gauge("g", 498, 0, high...), gauge("h", 499, 0, calm...)}, 3, 0, api.OK, 0},
		{[]api.Gauge{gauge("g", 500, 0, calm...), gauge("h", 501, 0)}, 3, 0, api.ErrNone, 1},
		{[]api.Gauge{gauge("g", 500, 0, high...), gauge("h", 501, 0)}, 3, 0, api.ErrReach, 0}, // the first cell decides
		{[]api.Gauge{gauge("g", 1500, 0), gauge("h", 2500, 0, high...)}, 3, 0, api.ErrNone, 0},
		{[]api.Gauge{gauge("f", 500, 0, calm...), gauge("g", 1500, 0), gauge("h", 2500, 0, high...)}, 3, 0, api.ErrNone, 1},
		{[]api.Gauge{gauge("f", 500, 0, calm...), gauge("g", 1500, 0, high...), gauge("h", 2500, 0)}, 3, 0, api.ErrReach, 1},
	} {
		s := siteWith(3, 1, func(s *api.Site, d *api.Dredger) { s.Gauges = x.gauges })
		sameRefusal(t, s, s.Bed, strip("a", 0, x.cols, -550, x.start), x.rule, x.cell, k, x)
		// cells that are not lowered do not matter
		low := with(s.Bed, -550, -550, -550)
		sameRefusal(t, s, low, strip("a", 0, x.cols, -550, x.start), api.OK, 0, k, x)
	}
	s := siteWith(3, 2, func(s *api.Site, d *api.Dredger) {
		s.Gauges = []api.Gauge{gauge("g", 500, 0, calm...), gauge("h", 1500, 0, high...), gauge("i", 2500, 0)}
	})
	sameRefusal(t, s, with(s.Bed, -550, -550, -550, -550, -500, -550), area("a", 0, 0, 3, 2, -550, 0), api.ErrReach, 4)
	sameRefusal(t, s, with(s.Bed, -550, -550, -500, -500, -500, -550), area("a", 0, 0, 3, 2, -550, 0), api.ErrNone, 2)
	sameRefusal(t, s, with(s.Bed, -500, -550, -550, -500, -550, -550), area("a", 0, 0, 3, 2, -550, 0), api.OK, 0)
	s.Dredgers[0].Depth = 1001
	sameRefusal(t, s, with(s.Bed, -550, -550, -550, -550, -500, -550), area("a", 0, 0, 3, 2, -550, 0), api.OK, 0)
}

func TestP73Quays(t *testing.T) {
	// the quay runs along the row 0, 500 below its centres, and 1500 below those of the row 1: the wedges are -550 and -650
	side := quay("q", 0, 0, 3000, 0, -500, 100)
	for k, x := range []struct {
		quays []api.Quay
		bed   []int
		c     api.Cut
		cell  int // -1: accepted
	}{
		{[]api.Quay{side}, nil, area("a", 0, 0, 3, 1, -550, 0), -1},
		{[]api.Quay{side}, nil, area("a", 0, 0, 3, 1, -551, 0), 0},
		{[]api.Quay{side}, nil, area("a", 1, 0, 2, 2, -551, 0), 1},
		{[]api.Quay{side}, nil, area("a", 0, 1, 3, 1, -600, 0), -1},
		{[]api.Quay{side}, []int{-551, -551, -551, -600, -600, -600}, area("a", 0, 0, 3, 2, -600, 0), 0},
		// what was too low before is not lowered
		{[]api.Quay{side}, []int{-600, -551, -551, -600, -600, -600}, area("a", 0, 0, 1, 2, -600, 0), -1},
		{[]api.Quay{side}, []int{-600, -551, -551, -600, -600, -600}, area("a", 0, 0, 3, 2, -600, 0), 1},
		{[]api.Quay{side}, []int{-600, -600, -600, -600, -600, -600}, area("a", 0, 1, 3, 1, -650, 0), -1},
		{[]api.Quay{side}, []int{-600, -600, -600, -600, -600, -600}, area("a", 0, 1, 3, 1, -651, 0), 3},
		// of several quays the least cell decides
		{[]api.Quay{quay("q", 2000, 0, 3000, 0, -500, 100), quay("r", 1000, 0, 2000, 0, -500, 100)}, nil, area("a", 0, 0, 3, 1, -551, 0), 1},
		{[]api.Quay{quay("q", 0, 9000, 3000, 9000, 0, 1), quay("r", 1000, 0, 2000, 0, -500, 100)}, nil, area("a", 0, 0, 3, 1, -551, 0), 1},
		{[]api.Quay{quay("q", 3000, 0, 0, 0, highest, 1)}, nil, area("a", 0, 0, 3, 1, -590, 0), -1}, // the water is on the other side
		{nil, nil, area("a", 0, 0, 3, 1, -590, 0), -1},
	} {
		s := siteWith(3, 2, func(s *api.Site, d *api.Dredger) { s.Quays = x.quays })
		m := s.Bed
		if x.bed != nil {
			m = with(m, x.bed...)
		}
		if x.cell < 0 {
			sameRefusal(t, s, m, x.c, api.OK, 0, k, x)
		} else {
			sameRefusal(t, s, m, x.c, api.ErrQuay, x.cell, k, x)
		}
	}
}

// The allowed difference is 100.
func TestP73Slopes(t *testing.T) {
	for k, x := range []struct {
		cols int
		bed  []int
		c    api.Cut
		cell int // -1: accepted
	}{
		{3, []int{-500, -500, -500}, strip("a", 0, 2, -600, 0), -1},
		{3, []int{-500, -500, -500}, strip("a", 0, 2, -601, 0), 1},
		{3, []int{-500, -500, -500}, strip("a", 1, 2, -601, 0), 1},
		{3, []int{-500, -500, -500}, strip("a", 1, 1, -601, 0), 1},
		{3, []int{-500, -500, -500}, strip("a", 0, 3, -700, 0), -1},
		{3, []int{-500, -500, u}, strip("a", 0, 2, -700, 0), -1},
		{3, []int{-500, -590, -500}, strip("a", 0, 1, -690, 0), -1},
		{3, []int{-500, -590, -500}, strip("a", 0, 1, -691, 0), 0},
		{3, []int{-500, -590, -500}, strip("a", 0, 2, -691, 0), 1},
		// a lowered cell may be the higher one: the lower one is told, in the footprint or not
		{3, []int{-500, -800, -800}, strip("a", 0, 1, -650, 0), 1},
		{3, []int{-500, -800, -800}, strip("a", 0, 2, -650, 0), 1},
		{3, []int{-500, -800, -800}, strip("a", 0, 1, -700, 0), -1},
		// of a pair that is too steep without it a cut knows nothing
		{4, []int{-500, -500, -800, -500}, strip("a", 0, 1, -550, 0), -1},
		{4, []int{-500, -500, -800, -500}, strip("a", 0, 2, -550, 0), 2},
		{4, []int{-500, -500, -800, -500}, strip("a", 0, 3, -500, 0), -1},
		{4, []int{-800, -500, -500, -500}, strip("a", 2, 1, -601, 0), 2},
		// rows: the pairs are ordered by their lesser cell, then by the greater one
		{2, []int{-500, -500, -500, -500}, area("a", 0, 0, 1, 1, -601, 0), 0},
		{2, []int{-500, -500, -500, -500}, area("a", 1, 1, 1, 1, -601, 0), 3},
		{2, []int{-500, -800, -800, -600}, area("a", 0, 0, 1, 1, -650, 0), 1},
		{2, []int{-500, -700, -800, -600}, area("a", 0, 0, 1, 1, -650, 0), 2},
		{2, []int{-500, -500, -500, -700}, area("a", 0, 1, 1, 1, -601, 0), 2},
		{2, []int{-800, -500, -700, -600}, area("a", 1, 0, 1, 1, -600, 0), 0},
		{2, []int{-600, -500, -700, -600}, area("a", 1, 0, 1, 2, -601, 0), -1},
		{2, []int{-700, -600, -500, -700}, area("a", 0, 1, 1, 1, -599, 0), 0},
	} {
		s := siteWith(x.cols, len(x.bed)/x.cols, func(s *api.Site, d *api.Dredger) {})
		if x.cell < 0 {
			sameRefusal(t, s, with(s.Bed, x.bed...), x.c, api.OK, 0, k, x)
		} else {
			sameRefusal(t, s, with(s.Bed, x.bed...), x.c, api.ErrSlope, x.cell, k, x)
		}
	}
}

// All rules are broken; then one after the other is kept.
func TestP73Order(t *testing.T) {
	s := example(-500, -500, u, -500)
	s.Zones = []api.Region{zone("z", 0, 0, 5, 0, 5, 5)}
	s.Quays = []api.Quay{quay("q", 1000, 0, 2000, 0, -500, 100)}
	s.Gauges[0].Marks = nil
	d := &s.Dredgers[0]
	d.Bite, d.Outputs = 50, nil
	for k, x := range []struct {
		rule   api.Errno
		cell   int
		repair func()
	}{
		{api.ErrForm, 0, func() { d.Across = 3 }},
		{api.ErrUnknown, 2, func() { s.Bed.Levels[2] = -500 }},
		{api.ErrZone, 0, func() { s.Zones = nil }},
		{api.ErrCapacity, 0, func() { d.Bite = 600 }},
		{api.ErrMissing, 0, func() { d.Outputs = []api.Output{output("sand", 1, 0)} }},
		{api.ErrLarge, 0, func() { d.Outputs[0].Rate = 100000 }},
		{api.ErrNone, 0, func() { s.Gauges[0].Marks = []api.Mark{mark(0, 1), mark(5, -100)} }},
		{api.ErrReach, 0, func() { d.Depth = 1101 }},
		{api.ErrQuay, 1, func() { s.Quays = nil }},
		{api.ErrSlope, 2, func() { s.Bed.Levels[3] = -1000 }},
		{api.OK, 0, func() {}},
	} {
		sameRefusal(t, s, s.Bed, strip("a", 0, 3, -1100, 0), x.rule, x.cell, k, x.rule)
		x.repair()
	}
}

// What lowers nothing is refused by the first three rules alone.
func TestP73NothingLowered(t *testing.T) {
	s := example(-500, -900, -500)
	s.Quays = []api.Quay{quay("q", 0, 0, 3000, 0, 0, 100)}
	s.Gauges, s.Dredgers[0].Outputs, s.Dredgers[0].Depth, s.Dredgers[0].Bite = nil, nil, 1, 1
	sameRefusal(t, s, s.Bed, strip("a", 0, 2, -500, latest), api.OK, 0)
	sameRefusal(t, s, s.Bed, strip("a", 0, 2, -501, latest), api.ErrMissing, 0)
	sameRefusal(t, s, s.Bed, strip("a", 0, 3, -500, latest), api.ErrForm, 0)
	sameRefusal(t, s, with(s.Bed, -500, u, -500), strip("a", 0, 2, -500, latest), api.ErrUnknown, 1)
	s.Zones = []api.Region{zone("z", 1500, 500, 1501, 500, 1500, 501)}
	sameRefusal(t, s, s.Bed, strip("a", 0, 2, -500, latest), api.ErrZone, 1)
}

func TestP73Computed(t *testing.T) {
	s := &numbers{73}
	seen := map[api.Errno]int{}
	for range 3000 {
		hard := s.next(4)
		site := s.site(5, hard)
		m := s.again(site.Bed, hard)
		for _, c := range s.cuts(site, 4) {
			want, is := refusal(site, m, c)
			sameRefusal(t, site, m, c, want.Rule, want.Cell, site, m, c)
			same(t, is, want.Rule != api.OK, "refusal")
			seen[want.Rule]++
		}
	}
	for _, rule := range []api.Errno{
		api.OK, api.ErrForm, api.ErrUnknown, api.ErrZone, api.ErrCapacity, api.ErrMissing, api.ErrLarge, api.ErrNone, api.ErrReach, api.ErrQuay, api.ErrSlope,
	} {
		same(t, seen[rule] > 30, true, "each rule is looked at", rule, seen[rule])
	}
}
