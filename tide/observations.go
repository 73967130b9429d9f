package tide

import (
	"slices"

	"draghead/api"
)

// Residuals returns the interval of the differences of observed levels and mean levels (P2.6).
func Residuals(g api.Gauge, seen []api.Mark) (api.Interval, api.Errno) {
	l, e := differences(g, seen)
	if e != api.OK {
		return api.Interval{}, e
	}
	out := l[0]
	for _, d := range l {
		out = api.Interval{Lo: min(out.Lo, d.Lo), Hi: max(out.Hi, d.Hi)}
	}
	return out, api.OK
}

// Calibrate returns a gauge with the least error with which every observed level is within the level.
func Calibrate(g api.Gauge, seen []api.Mark) (api.Gauge, api.Errno) {
	l, e := differences(g, seen)
	if e != api.OK {
		return api.Gauge{}, e
	}
	for _, d := range l {
		// The level goes from the mean level rounded down, which is Hi below the observed one, to that rounded up, Lo below it.
		g.Error = max(g.Error, d.Lo, -d.Hi)
	}
	if g.Error > api.MaxError {
		return api.Gauge{}, api.ErrRange
	}
	return record(g, slices.Clone(g.Marks)), api.OK
}

// differences returns, for each observation, its level less the mean level, rounded down and rounded up.
func differences(g api.Gauge, seen []api.Mark) ([]api.Interval, api.Errno) {
	if e := CheckGauge(g); e != api.OK {
		return nil, e
	}
	if len(seen) > api.MaxMarks {
		return nil, api.ErrLarge
	}
	if len(seen) == 0 {
		return nil, api.ErrNone
	}
	var out []api.Interval
	for _, m := range seen {
		if !inRange(m) {
			return nil, api.ErrRange
		}
		mean, known := meanLevel(g.Marks, m.Minute)
		if !known {
			return nil, api.ErrNone
		}
		out = append(out, api.Interval{Lo: m.Level - mean.Hi, Hi: m.Level - mean.Lo})
	}
	return out, api.OK
}
