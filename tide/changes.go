package tide

import (
	"cmp"
	"slices"

	"draghead/api"
)

// Shift returns a gauge with all levels greater by so much (P2.5).
func Shift(g api.Gauge, by int) (api.Gauge, api.Errno) {
	if e := CheckGauge(g); e != api.OK {
		return api.Gauge{}, e
	}
	if !within(by, -2*api.MaxLevel, 2*api.MaxLevel) {
		return api.Gauge{}, api.ErrRange
	}
	out := slices.Clone(g.Marks)
	for i := range out {
		out[i].Level += by
		if !inRange(out[i]) {
			return api.Gauge{}, api.ErrRange
		}
	}
	return record(g, out), api.OK
}

// Merge returns a gauge with the marks of two records.
func Merge(a, b api.Gauge) (api.Gauge, api.Errno) {
	if e := CheckGauge(a); e != api.OK {
		return api.Gauge{}, e
	}
	if e := CheckGauge(b); e != api.OK {
		return api.Gauge{}, e
	}
	if a.Name != b.Name || a.X != b.X || a.Error != b.Error {
		return api.Gauge{}, api.ErrShape
	}
	out := union(a.Marks, b.Marks)
	for i := 1; i < len(out); i++ {
		if out[i].Minute == out[i-1].Minute {
			return api.Gauge{}, api.ErrConflict
		}
	}
	if len(out) > api.MaxMarks {
		return api.Gauge{}, api.ErrLarge
	}
	return record(a, out), api.OK
}

// Simplify returns a gauge without the marks that lie on the straight line through their neighbours.
func Simplify(g api.Gauge) (api.Gauge, api.Errno) {
	if e := CheckGauge(g); e != api.OK {
		return api.Gauge{}, e
	}
	var out []api.Mark
	for i, m := range g.Marks {
		inner := i > 0 && i < len(g.Marks)-1
		if !inner || !straight(out[len(out)-1], m, g.Marks[i+1]) {
			out = append(out, m)
		}
	}
	return record(g, out), api.OK
}

// Twelfths returns a gauge whose marks are joined by the rule of twelfths.
func Twelfths(g api.Gauge) (api.Gauge, api.Errno) {
	if e := CheckGauge(g); e != api.OK {
		return api.Gauge{}, e
	}
	var out []api.Mark
	for i, m := range g.Marks {
		if i > 0 {
			out = addSixths(out, m)
		}
		out = append(out, m)
	}
	if len(out) > api.MaxMarks {
		return api.Gauge{}, api.ErrLarge
	}
	return record(g, out), api.OK
}

// addSixths adds to l the marks between its last one and the next one of the record.
func addSixths(l []api.Mark, next api.Mark) []api.Mark {
	last := l[len(l)-1]
	for i, twelfths := range [...]int{1, 3, 6, 9, 11} {
		m := api.Mark{
			Minute: last.Minute + quotient((i+1)*(next.Minute-last.Minute), 6),
			Level:  last.Level + quotient(twelfths*(next.Level-last.Level), 12),
		}
		if m.Minute > l[len(l)-1].Minute {
			l = append(l, m)
		}
	}
	return l
}

// straight reports whether b lies on the straight line through a and c.
func straight(a, b, c api.Mark) bool {
	return (b.Level-a.Level)*(c.Minute-a.Minute) == (c.Level-a.Level)*(b.Minute-a.Minute)
}

// union returns the marks of two lists in the order of their minutes, equal ones once.
func union(a, b []api.Mark) []api.Mark {
	out := slices.Concat(a, b)
	slices.SortFunc(out, func(m, n api.Mark) int { return cmp.Compare(m.Minute, n.Minute) })
	return slices.Compact(out)
}

// record returns the gauge g with other marks.
func record(g api.Gauge, l []api.Mark) api.Gauge {
	g.Marks = l
	return g
}
