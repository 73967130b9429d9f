package tide

import (
	"slices"

	"draghead/api"
)

// HighWaters returns the high waters of a gauge (P2.4).
func HighWaters(g api.Gauge) ([]api.Mark, api.Errno) {
	if e := CheckGauge(g); e != api.OK {
		return nil, e
	}
	return turns(g.Marks, higher), api.OK
}

// LowWaters returns the low waters of a gauge.
func LowWaters(g api.Gauge) ([]api.Mark, api.Errno) {
	if e := CheckGauge(g); e != api.OK {
		return nil, e
	}
	return turns(g.Marks, lower), api.OK
}

// Ranges returns the differences of neighbouring high and low waters.
func Ranges(g api.Gauge) ([]int, api.Errno) {
	if e := CheckGauge(g); e != api.OK {
		return nil, e
	}
	all := union(turns(g.Marks, higher), turns(g.Marks, lower))
	var out []int
	for i := 1; i < len(all); i++ {
		out = append(out, max(all[i].Level-all[i-1].Level, all[i-1].Level-all[i].Level))
	}
	return out, api.OK
}

func higher(a, b int) bool { return a > b }

func lower(a, b int) bool { return a < b }

// turns returns the marks that lie beyond the mark before them and beyond the next one with another level, as far as there are such marks.
func turns(l []api.Mark, beyond func(a, b int) bool) []api.Mark {
	var out []api.Mark
	for i, m := range l {
		if i > 0 && !beyond(m.Level, l[i-1].Level) {
			continue
		}
		next := slices.IndexFunc(l[i:], func(o api.Mark) bool { return o.Level != m.Level })
		if next < 0 || beyond(m.Level, l[i+next].Level) {
			out = append(out, m)
		}
	}
	return out
}
