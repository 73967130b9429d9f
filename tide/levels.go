package tide

import (
	"cmp"
	"slices"

	"draghead/api"
)

// At returns the level of a gauge at a minute (P2.2).
func At(g api.Gauge, minute int) (api.Interval, api.Errno) {
	if e := CheckGauge(g); e != api.OK {
		return api.Interval{}, e
	}
	if !isMinute(minute) {
		return api.Interval{}, api.ErrRange
	}
	v, known := gaugeLevel(g, minute)
	if !known {
		return api.Interval{}, api.ErrNone
	}
	return v, api.OK
}

// Level returns the level at a place and a minute.
func Level(l []api.Gauge, x, minute int) (api.Interval, api.Errno) {
	if e := CheckGauges(l); e != api.OK {
		return api.Interval{}, e
	}
	if !isPlace(x) || !isMinute(minute) {
		return api.Interval{}, api.ErrRange
	}
	v, known := placeLevel(l, x, minute)
	if !known {
		return api.Interval{}, api.ErrNone
	}
	return v, api.OK
}

// placeLevel returns the level at a place, and whether it is known.
func placeLevel(l []api.Gauge, x, minute int) (api.Interval, bool) {
	i, stands := slices.BinarySearchFunc(l, x, func(g api.Gauge, x int) int { return cmp.Compare(g.X, x) })
	switch {
	case len(l) == 0:
		return api.Interval{}, false
	case stands || i == 0:
		return gaugeLevel(l[i], minute)
	case i == len(l):
		return gaugeLevel(l[i-1], minute)
	}
	return levelBetween(l[i-1], l[i], x, minute)
}

// levelBetween returns the level at a place between two gauges, and whether it is known.
func levelBetween(a, b api.Gauge, x, minute int) (api.Interval, bool) {
	v, known := gaugeLevel(a, minute)
	if !known {
		return api.Interval{}, false
	}
	w, known := gaugeLevel(b, minute)
	if !known {
		return api.Interval{}, false
	}
	low := onLine(a.X, v.Lo, b.X, w.Lo, x)
	high := onLine(a.X, v.Hi, b.X, w.Hi, x)
	return api.Interval{Lo: low.Lo, Hi: high.Hi}, true
}

// gaugeLevel returns the level of a gauge, and whether it has one.
func gaugeLevel(g api.Gauge, minute int) (api.Interval, bool) {
	v, known := meanLevel(g.Marks, minute)
	if !known {
		return api.Interval{}, false
	}
	return api.Interval{Lo: v.Lo - g.Error, Hi: v.Hi + g.Error}, true
}

// meanLevel returns the mean level, rounded down and rounded up, and whether there is one.
func meanLevel(l []api.Mark, minute int) (api.Interval, bool) {
	i, marked := slices.BinarySearchFunc(l, minute, func(m api.Mark, minute int) int { return cmp.Compare(m.Minute, minute) })
	if marked {
		return api.Interval{Lo: l[i].Level, Hi: l[i].Level}, true
	}
	if i == 0 || i == len(l) {
		return api.Interval{}, false
	}
	a, b := l[i-1], l[i]
	return onLine(a.Minute, a.Level, b.Minute, b.Level, minute), true
}

// onLine returns the value at p, rounded down and rounded up, of the straight line that has the value v at a and w at b, b being greater than a.
func onLine(a, v, b, w, p int) api.Interval {
	sum := v*(b-p) + w*(p-a)
	return api.Interval{Lo: quotient(sum, b-a), Hi: -quotient(-sum, b-a)}
}

// quotient rounds down, which division in Go does not do for negative numbers; b is greater than 0.
func quotient(a, b int) int {
	q := a / b
	if a%b < 0 {
		q--
	}
	return q
}
