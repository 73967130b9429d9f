package cut

import (
	"slices"

	"draghead/api"
	"draghead/soil"
)

// broken is what a rule panics with that a cut breaks, at a cell.
type broken struct {
	rule api.Errno
	cell int
}

// Refusal returns the rule by which a cut is refused on a bed, and whether there is one (P7.3).
func Refusal(s api.Site, bed api.Grid, c api.Cut) (api.Violation, bool, api.Errno) {
	j, e := jobOn(s, bed, c)
	if e != api.OK {
		return api.Violation{}, false, e
	}
	v, is := firstBroken(j.keepRules)
	return v, is, api.OK
}

// firstBroken begins with the rules for a cut, and returns the first one that it breaks, and whether there is one.
func firstBroken(rules func()) (v api.Violation, is bool) {
	defer func() {
		switch x := recover().(type) {
		case nil:
		case broken:
			v, is = api.Violation{Cell: x.cell, Rule: x.rule}, true
		default:
			panic(x)
		}
	}()
	rules()
	return api.Violation{}, false
}

// keepRules panics with the first rule that the job breaks.
func (j job) keepRules() {
	j.keepForm()
	forbid(api.ErrUnknown, j.cells, func(i int) bool { return !isKnown(j.before, i) })
	forbid(api.ErrZone, j.cells, j.isProtected)
	forbid(api.ErrCapacity, j.lowered, func(i int) bool { return j.before.Levels[i]-j.cut.Level > j.dredger.Bite })
	forbid(api.ErrMissing, j.lowered, j.lacksOutput)
	j.keepTime()
	j.keepReach()
	j.keepQuays()
	j.keepSlopes()
}

// forbid breaks a rule at the first one of the cells for which it is broken.
func forbid(rule api.Errno, cells []int, isBroken func(i int) bool) {
	if k := slices.IndexFunc(cells, isBroken); k >= 0 {
		panic(broken{rule, cells[k]})
	}
}

func (j job) keepForm() {
	if !fits(j.dredger, j.cut.Cols, j.cut.Rows) {
		panic(broken{api.ErrForm, j.cells[0]})
	}
}

// fits reports whether a footprint with so many columns and rows is one of the dredger.
func fits(d api.Dredger, cols, rows int) bool {
	switch d.Kind {
	case api.Trailer:
		return min(cols, rows) <= d.Across && max(cols, rows) >= d.Along
	case api.Backhoe:
		return cols <= d.Across && rows <= d.Along || cols <= d.Along && rows <= d.Across
	}
	return cols <= d.Across && rows <= d.Along
}

// lacksOutput reports whether a cell is lowered through a soil for which the dredger has no output.
func (j job) lacksOutput(i int) bool {
	if j.effort.e == api.OK {
		return false
	}
	// The ground and the levels are checked, and the cell is lowered: there is no error.
	parts, _ := soil.Column(j.Ground, j.centre(i), j.before.Levels[i], j.cut.Level)
	return slices.ContainsFunc(parts, func(p api.Part) bool {
		return !slices.ContainsFunc(j.dredger.Outputs, func(o api.Output) bool { return o.Soil == p.Soil })
	})
}

func (j job) keepTime() {
	if j.effort.minutes > api.MaxWindow || j.spell().To > api.MaxMinute+1 {
		panic(broken{api.ErrLarge, j.cells[0]})
	}
}

// keepReach comes behind keepTime: the minutes can be looked at together.
func (j job) keepReach() {
	minutes := api.Window{From: j.spell().From, To: j.spell().To - 1}
	for _, i := range j.lowered {
		w := j.waterAt(j.centre(i).X, minutes)
		if w.e != api.OK {
			panic(broken{w.e, i})
		}
		if w.high-j.cut.Level > j.dredger.Depth {
			panic(broken{api.ErrReach, i})
		}
	}
}

func (j job) keepQuays() {
	under := map[int]bool{}
	for _, q := range j.Quays {
		// The quay and the bed are checked: there is no error.
		cells, _ := soil.Undermined(q, j.after)
		for _, i := range cells {
			under[i] = true
		}
	}
	forbid(api.ErrQuay, j.lowered, func(i int) bool { return under[i] })
}

func (j job) keepSlopes() {
	// The ground and the bed are checked: there is no error.
	all, _ := soil.Steeps(j.Ground, j.after)
	for _, s := range all {
		if j.isLowered(s.High) || j.isLowered(s.Low) {
			panic(broken{api.ErrSlope, s.Low})
		}
	}
}
