package cut_test

import (
	"math"
	"slices"
	"strings"
	"testing"

	"draghead/api"
	"draghead/cut"
)

// soilsFor is so many outputs for soils with names of their own.
func soilsFor(n int) []api.Output {
	var out []api.Output
	for k := range n {
		out = append(out, output(letter(k), 1, 0))
	}
	return out
}

// dredgerWith is the dredger of the examples with something changed.
func dredgerWith(change func(d *api.Dredger)) api.Dredger {
	d := cutter()
	change(&d)
	return d
}

func TestP71CheckDredger(t *testing.T) {
	for _, d := range []api.Dredger{
		cutter(), {Name: "A-1234567890", Depth: 1, Bite: 1, Across: 1, Along: 1},
		{Name: "z", Kind: api.Backhoe, Depth: 10000, Bite: 10000, Across: 100, Along: 100, Hour: 1000000, Outputs: soilsFor(8)},
		{Name: "z", Kind: api.Trailer, Depth: 1, Bite: 1, Across: 1, Along: 1, Outputs: []api.Output{output("Z-1234567890", 100000, 1000), output("z", 1, 0)}},
	} {
		same(t, cut.CheckDredger(d), api.OK, "CheckDredger", d)
	}
	for k, x := range []struct {
		want   api.Errno
		change func(d *api.Dredger)
	}{
		{api.ErrName, func(d *api.Dredger) { d.Name = "" }},
		{api.ErrName, func(d *api.Dredger) { d.Name, d.Kind = "A-12345678901", -1 }}, // before ErrRange
		{api.ErrName, func(d *api.Dredger) { d.Name, d.Outputs = "1", soilsFor(9) }},
		{api.ErrName, func(d *api.Dredger) { d.Name = "-" }},
		{api.ErrName, func(d *api.Dredger) { d.Name = "a b" }},
		{api.ErrName, func(d *api.Dredger) { d.Name = "a\u00e9" }},
		{api.ErrRange, func(d *api.Dredger) { d.Kind = -1 }},
		{api.ErrRange, func(d *api.Dredger) { d.Kind = 3 }},
		{api.ErrRange, func(d *api.Dredger) { d.Depth = 0 }},
		{api.ErrRange, func(d *api.Dredger) { d.Depth = 10001 }},
		{api.ErrRange, func(d *api.Dredger) { d.Bite = 0 }},
		{api.ErrRange, func(d *api.Dredger) { d.Bite = 10001 }},
		{api.ErrRange, func(d *api.Dredger) { d.Across = 0 }},
		{api.ErrRange, func(d *api.Dredger) { d.Across = 101 }},
		{api.ErrRange, func(d *api.Dredger) { d.Along = 0 }},
		{api.ErrRange, func(d *api.Dredger) { d.Along = 101 }},
		{api.ErrRange, func(d *api.Dredger) { d.Hour = -1 }},
		{api.ErrRange, func(d *api.Dredger) { d.Hour = 1000001 }},
		{api.ErrRange, func(d *api.Dredger) { d.Hour, d.Outputs = math.MinInt, soilsFor(9) }}, // before ErrLarge
		{api.ErrLarge, func(d *api.Dredger) { d.Outputs = soilsFor(9) }},
		{api.ErrLarge, func(d *api.Dredger) { d.Outputs = append(soilsFor(8), output("?", 0, 0)) }}, // before the elements
		{api.ErrLarge, func(d *api.Dredger) { d.Outputs = make([]api.Output, 9) }},
		{api.ErrName, func(d *api.Dredger) { d.Outputs = []api.Output{output("", 0, -1)} }},
		{api.ErrName, func(d *api.Dredger) {
			d.Outputs = []api.Output{output("a", 1, 0), output("?", 1, 0), output("a", 0, 0)}
		}},
		{api.ErrExists, func(d *api.Dredger) { d.Outputs = append(soilsFor(4), output("b", 0, -1)) }}, // before ErrRange
		{api.ErrRange, func(d *api.Dredger) { d.Outputs = []api.Output{output("a", 0, 0), output("a", 1, 0)} }},
		{api.ErrRange, func(d *api.Dredger) { d.Outputs = []api.Output{output("a", 100001, 0)} }},
		{api.ErrRange, func(d *api.Dredger) { d.Outputs = []api.Output{output("a", 1, -1)} }},
		{api.ErrRange, func(d *api.Dredger) { d.Outputs = []api.Output{output("a", 1, 1001), output("?", 1, 0)} }},
		{api.ErrRange, func(d *api.Dredger) { d.Outputs = append(soilsFor(7), output("h", math.MinInt, math.MaxInt)) }},
	} {
		d := dredgerWith(x.change)
		same(t, cut.CheckDredger(d), x.want, "CheckDredger", k, d)
		s := level()
		s.Dredgers = []api.Dredger{named("first"), d}
		allRefused(t, siteCalls(s), x.want, k, d)
	}
}

// change is something that is changed in a site, and the error that it then has.
type change struct {
	want api.Errno
	make func(s *api.Site)
}

// addZone, addQuay, addGauge and addDredger add one more to the site.
func addZone(want api.Errno, z api.Region) change {
	return change{want, func(s *api.Site) { s.Zones = append(s.Zones, z) }}
}

func addQuay(want api.Errno, q api.Quay) change {
	return change{want, func(s *api.Site) { s.Quays = append(s.Quays, q) }}
}

func addGauge(want api.Errno, g api.Gauge) change {
	return change{want, func(s *api.Site) { s.Gauges = append(s.Gauges, g) }}
}

func addDredger(want api.Errno, d api.Dredger) change {
	return change{want, func(s *api.Site) { s.Dredgers = append(s.Dredgers, d) }}
}

// full is a site with as much of everything as there may be.
func full() api.Site {
	s := example(-500, -500, u, highest, -highest)
	s.Ground.Soils = nil
	for k := range api.MaxSoils {
		s.Ground.Soils = append(s.Ground.Soils, kind(letter(k), 50))
	}
	s.Ground.Borings[0].Layers = []api.Layer{layer(0, "h")}
	s.Dredgers = nil
	for k := range api.MaxDredgers {
		d := named(letter(k))
		d.Outputs = soilsFor(8)
		s.Dredgers = append(s.Dredgers, d)
	}
	for k := range api.MaxZones {
		z := zone(letter(k), 0, 0, 5, 0, 5, 5)
		z.Kind = 7*k - 20 // does not matter
		s.Zones = append(s.Zones, z)
	}
	for k := range api.MaxQuays {
		s.Quays = append(s.Quays, quay(letter(k), 0, 0, 1, 1, 0, 1))
	}
	s.Gauges = nil
	for k := range api.MaxGauges {
		s.Gauges = append(s.Gauges, gauge(letter(k), k, 0))
	}
	return s
}

// siteChanges is in the order in which the chapter lists the errors.
func siteChanges() []change {
	bow := zone("bow", 0, 0, 4, 4, 4, 0, 0, 4)
	return []change{
		{api.ErrRange, func(s *api.Site) { s.Bed.Side = 99 }},
		{api.ErrShape, func(s *api.Site) { s.Bed.Levels = s.Bed.Levels[1:] }},
		{api.ErrName, func(s *api.Site) { s.Ground.Soils = []api.Soil{kind("?", 50)} }},
		{api.ErrShape, func(s *api.Site) { s.Ground.Borings = nil }},
		{api.ErrLarge, func(s *api.Site) { s.Zones = append(s.Zones, make([]api.Region, 11)...) }},
		addZone(api.ErrName, zone("?", 0, 0)),
		addZone(api.ErrExists, zone("a", 0, 0)),
		addZone(api.ErrShape, zone("b", 0, 0, 1, 1)),
		addZone(api.ErrForm, bow),
		{api.ErrLarge, func(s *api.Site) { s.Quays = append(s.Quays, make([]api.Quay, 6)...) }},
		addQuay(api.ErrName, quay("", 0, 0, 0, 0, 0, 0)),
		addQuay(api.ErrRange, quay("a", 0, 0, 0, 0, 0, 0)),
		addQuay(api.ErrForm, quay("a", 0, 0, 0, 0, 0, 1)), // before ErrExists
		addQuay(api.ErrExists, quay("a", 0, 0, 1, 0, 0, 1)),
		{api.ErrLarge, func(s *api.Site) { s.Gauges = append(s.Gauges, make([]api.Gauge, 7)...) }},
		addGauge(api.ErrExists, gauge("g", -5, -1)),
		addGauge(api.ErrOrder, gauge("h", 0, 0)),
		{api.ErrLarge, func(s *api.Site) { s.Dredgers = append(s.Dredgers, make([]api.Dredger, 7)...) }},
		addDredger(api.ErrName, named("")),
		addDredger(api.ErrRange, dredgerWith(func(d *api.Dredger) { d.Depth = 0 })), // before ErrExists
		addDredger(api.ErrLarge, dredgerWith(func(d *api.Dredger) { d.Outputs = soilsFor(9) })),
		addDredger(api.ErrExists, dredgerWith(func(d *api.Dredger) { d.Outputs = soilsFor(1) })), // before ErrMissing
		addDredger(api.ErrMissing, dredgerWith(func(d *api.Dredger) { d.Name, d.Outputs = "d", soilsFor(1) })),
	}
}

func TestP71CheckSite(t *testing.T) {
	bare := level()
	bare.Gauges, bare.Dredgers = nil, nil
	for _, s := range []api.Site{level(), full(), bare, example(u)} {
		same(t, cut.CheckSite(s), api.OK, "CheckSite", s)
	}
	start := func() api.Site {
		s := level()
		s.Zones, s.Quays = []api.Region{zone("a", 0, 0, 5, 0, 5, 5)}, []api.Quay{quay("a", 0, 0, 1, 0, 0, 1)}
		return s
	}
	all := siteChanges()
	for i, first := range all {
		s := start()
		first.make(&s)
		allRefused(t, siteCalls(s), first.want, i)
		for j, later := range all[i+1:] {
			s := start()
			first.make(&s)
			later.make(&s)
			same(t, cut.CheckSite(s), first.want, "CheckSite", i, i+1+j)
		}
	}
}

// One more than in a full site is too much.
func TestP71CheckSiteCounts(t *testing.T) {
	for k, x := range []change{
		addZone(api.ErrLarge, zone("k", 0, 0, 5, 0, 5, 5)),
		addQuay(api.ErrLarge, quay("k", 0, 0, 1, 0, 0, 1)),
		addGauge(api.ErrLarge, gauge("k", 99, 0)),
		addDredger(api.ErrLarge, dredgerWith(func(d *api.Dredger) { d.Name, d.Outputs = "k", nil })),
	} {
		s := full()
		x.make(&s)
		allRefused(t, siteCalls(s), x.want, k)
	}
}

// A name may be there once among the zones, the quays, the gauges and the dredgers.
func TestP71NamesOfTheirOwn(t *testing.T) {
	s := level()
	s.Zones = []api.Region{zone("c", 0, 0, 5, 0, 5, 5), zone("C", 0, 0, 5, 0, 5, 5)}
	s.Quays = []api.Quay{quay("c", 0, 0, 1, 0, 0, 1), quay("C", 0, 0, 1, 0, 0, 1)}
	s.Gauges = []api.Gauge{gauge("c", 0, 0), gauge("C", 1, 0)}
	s.Dredgers = append(s.Dredgers, named("C"))
	same(t, cut.CheckSite(s), api.OK, "CheckSite", s)
	same(t, cut.CheckCuts(s, []api.Cut{strip("c", 0, 1, 0, 0), by(strip("C", 0, 1, 0, 0), "C")}), api.OK, "CheckCuts", s)
	s.Zones = append(s.Zones, zone("d", 0, 0, 5, 0, 5, 5), zone("c", 0, 0, 5, 0, 5, 5))
	same(t, cut.CheckSite(s), api.ErrExists, "CheckSite", s)
}

// cutNames is so many cuts with names of their own.
func cutNames(n int) []api.Cut {
	var out []api.Cut
	for k := range n {
		out = append(out, strip("n"+strings.Repeat("x", k%8)+letter(k/8), 0, 1, 0, 0))
	}
	return out
}

func TestP71CheckCuts(t *testing.T) {
	s := wide(4, 3)
	whole := area("a", 0, 0, 4, 3, 0, 0)
	for _, l := range [][]api.Cut{
		nil, cutNames(40), {whole}, {area("b", 3, 2, 1, 1, highest, latest), area("c", 1, 1, 3, 2, -highest, 0)},
	} {
		same(t, cut.CheckCuts(s, l), api.OK, "CheckCuts", l)
	}
	for k, x := range []struct {
		want api.Errno
		c    api.Cut
	}{
		{api.ErrName, area("", 0, 0, 1, 1, 0, 0)},
		{api.ErrName, by(area("?", 0, 0, 0, 0, highest+1, 0), "?")},
		{api.ErrName, area("A-12345678901", 0, 0, 1, 1, 0, 0)},
		{api.ErrMissing, by(area("b", 0, 0, 0, 1, highest+1, 0), "d")},
		{api.ErrMissing, by(whole, "")},
		{api.ErrMissing, by(whole, "C")},
		{api.ErrRange, area("b", 0, 0, 0, 1, highest+1, 0)},
		{api.ErrRange, area("b", 0, 0, 1, 1, -highest-1, 0)},
		{api.ErrRange, area("b", 0, 0, 1, 1, u, 0)},
		{api.ErrRange, area("b", 0, 0, 1, 1, 0, -1)},
		{api.ErrRange, area("b", -1, 0, 1, 1, 0, latest+1)},
		{api.ErrShape, area("b", 0, 0, 0, 1, 0, 0)},
		{api.ErrShape, area("b", 0, 0, 1, 0, 0, 0)},
		{api.ErrShape, area("b", 0, 0, -1, 1, 0, 0)},
		{api.ErrShape, area("b", 0, 0, 1, -1, 0, 0)},
		{api.ErrShape, area("b", -1, 0, 2, 1, 0, 0)},
		{api.ErrShape, area("b", 0, -1, 1, 2, 0, 0)},
		{api.ErrShape, area("b", 0, 0, 5, 1, 0, 0)},
		{api.ErrShape, area("b", 0, 0, 1, 4, 0, 0)},
		{api.ErrShape, area("b", 3, 0, 2, 1, 0, 0)},
		{api.ErrShape, area("b", 4, 0, 1, 1, 0, 0)},
		{api.ErrShape, area("b", 0, 3, 1, 1, 0, 0)},
		{api.ErrShape, area("b", 0, 2, 1, 2, 0, 0)},
		{api.ErrShape, area("b", 1, 0, math.MaxInt, 1, 0, 0)},
		{api.ErrShape, area("b", 0, math.MaxInt, 1, math.MaxInt, 0, 0)},
		{api.ErrShape, area("b", math.MinInt, 0, math.MinInt, 1, 0, 0)},
	} {
		allRefused(t, listCalls(s, []api.Cut{x.c}), x.want, k, x.c)
		allRefused(t, oneCalls(s, x.c), x.want, k, x.c)
		allRefused(t, listCalls(s, []api.Cut{strip("w", 0, 1, 0, 0), x.c, whole, {}}), x.want, k, x.c)
	}
	allRefused(t, listCalls(s, cutNames(41)), api.ErrLarge)
	allRefused(t, listCalls(s, slices.Concat(cutNames(40), []api.Cut{{}})), api.ErrLarge)
	allRefused(t, listCalls(s, []api.Cut{whole, strip("b", 0, 1, 0, 0), by(area("a", 9, 9, 9, 9, u, -1), "?")}), api.ErrExists)
}

func TestP71OtherBeds(t *testing.T) {
	s, c := wide(4, 3), area("b", 1, 1, 1, 1, -550, 0)
	for k, x := range []struct {
		want api.Errno
		m    api.Grid
	}{
		{api.ErrRange, flat(frame(farthest+1, 0, 1000, 4, 3), -500)},
		{api.ErrLarge, flat(frame(0, 0, 1000, 1024, 2), -500)},
		{api.ErrShape, frame(0, 0, 1000, 4, 3)},
		{api.ErrRange, flat(frame(0, 0, 999, 4, 3), highest+1)},
		{api.ErrShape, flat(frame(1, 0, 1000, 4, 3), -500)},
		{api.ErrShape, flat(frame(0, -1, 1000, 4, 3), -500)},
		{api.ErrShape, flat(frame(0, 0, 999, 4, 3), -500)},
		{api.ErrShape, flat(frame(0, 0, 1000, 3, 4), -500)},
		{api.ErrShape, flat(frame(0, 0, 1000, 4, 2), -500)},
		{api.ErrShape, flat(frame(0, 0, 1000, 5, 3), -500)},
	} {
		allRefused(t, bedCalls(s, x.m, c), x.want, k)
	}
	for name, got := range bedCalls(s, flat(s.Bed, -400), c) {
		same(t, got.e, api.OK, name)
	}
}
