package cut

import (
	"cmp"
	"slices"

	"draghead/api"
	"draghead/soil"
)

const (
	cubicMetre = 1000000 // cubic centimetres
	hour       = 60      // minutes
)

// job is a cut on a bed of its field.
type job struct {
	field
	cut           api.Cut
	dredger       api.Dredger
	before, after api.Grid
	cells         []int // the footprint
	lowered       []int // those of its cells that are lowered
	taken         []api.Share
	effort        effort
}

// effort is the minutes and the price of a job; ErrMissing and no minutes if the dredger has no output for a soil.
type effort struct {
	minutes, price int
	e              api.Errno
}

// Footprint returns the cells of the footprint of a cut, ascending (P7.2).
func Footprint(s api.Site, c api.Cut) ([]int, api.Errno) {
	if e := CheckCuts(s, []api.Cut{c}); e != api.OK {
		return nil, e
	}
	return footprint(s.Bed, c), api.OK
}

// Lowered returns the bed behind a cut.
func Lowered(s api.Site, bed api.Grid, c api.Cut) (api.Grid, api.Errno) {
	j, e := jobOn(s, bed, c)
	return j.after, e
}

// Taken returns how much of each soil a cut takes.
func Taken(s api.Site, bed api.Grid, c api.Cut) ([]api.Share, api.Errno) {
	j, e := jobOn(s, bed, c)
	return j.taken, e
}

// Minutes returns how long a cut takes.
func Minutes(s api.Site, bed api.Grid, c api.Cut) (int, api.Errno) {
	j, e := jobOn(s, bed, c)
	return j.effort.minutes, cmp.Or(e, j.effort.e)
}

// Price returns what a cut costs.
func Price(s api.Site, bed api.Grid, c api.Cut) (int, api.Errno) {
	j, e := jobOn(s, bed, c)
	return j.effort.price, cmp.Or(e, j.effort.e)
}

// jobOn returns the job of a cut, or what is wrong with its site, the cut, or the bed.
func jobOn(s api.Site, bed api.Grid, c api.Cut) (job, api.Errno) {
	if e := checkOn(s, bed, c); e != api.OK {
		return job{}, e
	}
	return fieldOf(s).job(bed, c), api.OK
}

// job returns the job of a cut on a bed, both without errors.
func (f field) job(bed api.Grid, c api.Cut) job {
	out := job{field: f, cut: c, before: bed, after: lower(bed, c), cells: footprint(bed, c)}
	out.dredger = f.Dredgers[slices.IndexFunc(f.Dredgers, func(d api.Dredger) bool { return d.Name == c.Dredger })]
	for _, i := range out.cells {
		if out.isLowered(i) {
			out.lowered = append(out.lowered, i)
		}
	}
	// The ground and both beds are checked: there is no error.
	out.taken, _ = soil.Shares(f.Ground, bed, out.after)
	out.effort = effortOf(out.dredger, out.taken)
	return out
}

func (j job) isLowered(i int) bool {
	return j.after.Levels[i] < j.before.Levels[i]
}

// spell returns the time of a job; it is empty without minutes.
func (j job) spell() api.Spell {
	return api.Spell{From: j.cut.Start, To: j.cut.Start + j.effort.minutes}
}

func footprint(m api.Grid, c api.Cut) []int {
	var out []int
	for row := range c.Rows {
		for col := range c.Cols {
			out = append(out, (c.Row+row)*m.Cols+c.Col+col)
		}
	}
	return out
}

// lower returns the bed behind a cut.
func lower(m api.Grid, c api.Cut) api.Grid {
	levels := slices.Clone(m.Levels)
	for _, i := range footprint(m, c) {
		if isKnown(m, i) {
			levels[i] = min(levels[i], c.Level)
		}
	}
	m.Levels = levels
	return m
}

func effortOf(d api.Dredger, taken []api.Share) effort {
	var out effort
	for _, s := range taken {
		if s.Volume == 0 {
			continue
		}
		k := slices.IndexFunc(d.Outputs, func(o api.Output) bool { return o.Soil == s.Soil })
		if k < 0 {
			return effort{e: api.ErrMissing}
		}
		out.minutes += up(hour*s.Volume, cubicMetre*d.Outputs[k].Rate)
		out.price += up(s.Volume*d.Outputs[k].Wear, cubicMetre)
	}
	out.price += up(out.minutes*d.Hour, hour)
	return out
}

// up is a quotient of numbers that are not negative, rounded up.
func up(n, by int) int {
	return (n + by - 1) / by
}
