// Package cut is chapter 7: dredgers, cuts that lower parts of a bed, the rules for them, plans, and orders.
package cut

import (
	"cmp"
	"slices"

	"draghead/api"
	"draghead/bed"
	"draghead/geometry"
	"draghead/soil"
	"draghead/tide"
)

const (
	mostDepth  = 10000 // centimetres below the water
	mostBite   = 10000
	mostExtent = 100     // cells
	mostHour   = 1000000 // cents
	mostRate   = 100000  // cubic metres an hour
	mostWear   = 1000    // cents for a cubic metre
)

// CheckDredger returns what is wrong with a dredger (P7.1).
func CheckDredger(d api.Dredger) api.Errno {
	if e := checkName(d.Name); e != api.OK {
		return e
	}
	if !within(d.Kind, api.Cutter, api.Backhoe) || !within(d.Depth, 1, mostDepth) || !within(d.Bite, 1, mostBite) {
		return api.ErrRange
	}
	if !within(d.Across, 1, mostExtent) || !within(d.Along, 1, mostExtent) || !within(d.Hour, 0, mostHour) {
		return api.ErrRange
	}
	return checkOutputs(d.Outputs)
}

// CheckSite returns what is wrong with a site.
func CheckSite(s api.Site) api.Errno {
	return cmp.Or(
		bed.Check(s.Bed),
		soil.CheckGround(s.Ground),
		checkZones(s.Zones),
		checkQuays(s.Quays),
		tide.CheckGauges(s.Gauges),
		checkDredgers(s),
	)
}

// CheckCuts returns what is wrong with cuts on a site.
func CheckCuts(s api.Site, l []api.Cut) api.Errno {
	if e := CheckSite(s); e != api.OK {
		return e
	}
	return checkNamed(l, api.MaxCuts,
		func(c api.Cut) string { return c.Name },
		func(c api.Cut) api.Errno { return checkName(c.Name) },
		func(c api.Cut) api.Errno { return checkCut(s, c) })
}

// checkOn returns what is wrong with a cut on another bed of a site.
func checkOn(s api.Site, other api.Grid, c api.Cut) api.Errno {
	if e := CheckCuts(s, []api.Cut{c}); e != api.OK {
		return e
	}
	_, e := bed.Compare(s.Bed, other)
	return e
}

func checkOutputs(l []api.Output) api.Errno {
	return checkNamed(l, api.MaxSoils,
		func(o api.Output) string { return o.Soil },
		func(o api.Output) api.Errno { return checkName(o.Soil) },
		checkOutput)
}

func checkOutput(o api.Output) api.Errno {
	if !within(o.Rate, 1, mostRate) || !within(o.Wear, 0, mostWear) {
		return api.ErrRange
	}
	return api.OK
}

func checkZones(l []api.Region) api.Errno {
	return checkNamed(l, api.MaxZones,
		func(z api.Region) string { return z.Name },
		func(z api.Region) api.Errno { return checkName(z.Name) },
		func(z api.Region) api.Errno { return geometry.CheckPolygon(z.Corners) })
}

func checkQuays(l []api.Quay) api.Errno {
	return checkNamed(l, api.MaxQuays,
		func(q api.Quay) string { return q.Name },
		soil.CheckQuay,
		func(api.Quay) api.Errno { return api.OK })
}

func checkDredgers(s api.Site) api.Errno {
	return checkNamed(s.Dredgers, api.MaxDredgers,
		func(d api.Dredger) string { return d.Name },
		CheckDredger,
		func(d api.Dredger) api.Errno { return checkSoils(s.Ground, d) })
}

// checkSoils returns whether a dredger has an output for a soil that is not in the ground.
func checkSoils(g api.Ground, d api.Dredger) api.Errno {
	for _, o := range d.Outputs {
		if !slices.ContainsFunc(g.Soils, func(s api.Soil) bool { return s.Name == o.Soil }) {
			return api.ErrMissing
		}
	}
	return api.OK
}

// checkCut returns what is wrong with a cut beside its name.
func checkCut(s api.Site, c api.Cut) api.Errno {
	if !slices.ContainsFunc(s.Dredgers, func(d api.Dredger) bool { return d.Name == c.Dredger }) {
		return api.ErrMissing
	}
	if !within(c.Level, -api.MaxLevel, api.MaxLevel) || !within(c.Start, 0, api.MaxMinute) {
		return api.ErrRange
	}
	if !isPart(c.Col, c.Cols, s.Bed.Cols) || !isPart(c.Row, c.Rows, s.Bed.Rows) {
		return api.ErrShape
	}
	return api.OK
}

// isPart reports whether there are n, from first on, within all.
func isPart(first, n, all int) bool {
	return first >= 0 && within(n, 1, all-first)
}

// checkNamed returns what is wrong with a list whose elements have names of their own: before tells what comes before a name that is there twice, behind what comes behind it.
func checkNamed[T any](l []T, most int, name func(T) string, before, behind func(T) api.Errno) api.Errno {
	if len(l) > most {
		return api.ErrLarge
	}
	earlier := map[string]bool{}
	for _, x := range l {
		if e := before(x); e != api.OK {
			return e
		}
		if earlier[name(x)] {
			return api.ErrExists
		}
		earlier[name(x)] = true
		if e := behind(x); e != api.OK {
			return e
		}
	}
	return api.OK
}

func within(n, least, most int) bool {
	return least <= n && n <= most
}

func checkName(s string) api.Errno {
	if len(s) == 0 || len(s) > api.MaxName || !isLetter(s[0]) {
		return api.ErrName
	}
	for i := range len(s) {
		if c := s[i]; !isLetter(c) && !isDigit(c) && c != '-' {
			return api.ErrName
		}
	}
	return api.OK
}

func isLetter(c byte) bool {
	return 'A' <= c && c <= 'Z' || 'a' <= c && c <= 'z'
}

func isDigit(c byte) bool {
	return '0' <= c && c <= '9'
}
