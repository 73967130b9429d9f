// Package tide is chapter 2: records of tide gauges, water levels as intervals, and the windows in which the water is high enough.
package tide

import (
	"slices"

	"draghead/api"
)

// CheckGauge returns what is wrong with a gauge (P2.1).
func CheckGauge(g api.Gauge) api.Errno {
	return checkNext(nil, g)
}

// CheckGauges returns what is wrong with a list of gauges.
func CheckGauges(l []api.Gauge) api.Errno {
	if len(l) > api.MaxGauges {
		return api.ErrLarge
	}
	for i, g := range l {
		if e := checkNext(l[:i], g); e != api.OK {
			return e
		}
	}
	return api.OK
}

// checkNext returns what is wrong with a gauge that stands in a list behind others.
func checkNext(before []api.Gauge, g api.Gauge) api.Errno {
	if !isName(g.Name) {
		return api.ErrName
	}
	if slices.ContainsFunc(before, func(b api.Gauge) bool { return b.Name == g.Name }) {
		return api.ErrExists
	}
	if !isPlace(g.X) || !within(g.Error, 0, api.MaxError) {
		return api.ErrRange
	}
	if e := checkMarks(g.Marks); e != api.OK {
		return e
	}
	if n := len(before); n > 0 && g.X <= before[n-1].X {
		return api.ErrOrder
	}
	return api.OK
}

func checkMarks(l []api.Mark) api.Errno {
	if len(l) > api.MaxMarks {
		return api.ErrLarge
	}
	for i, m := range l {
		if !inRange(m) {
			return api.ErrRange
		}
		if i > 0 && m.Minute <= l[i-1].Minute {
			return api.ErrOrder
		}
	}
	return api.OK
}

func inRange(m api.Mark) bool {
	return isMinute(m.Minute) && within(m.Level, -api.MaxLevel, api.MaxLevel)
}

func isMinute(n int) bool {
	return within(n, 0, api.MaxMinute)
}

func isPlace(x int) bool {
	return within(x, -api.MaxPlace, api.MaxPlace)
}

func within(n, least, most int) bool {
	return least <= n && n <= most
}

func isName(s string) bool {
	if len(s) == 0 || len(s) > api.MaxName || !isLetter(s[0]) {
		return false
	}
	for i := range len(s) {
		if c := s[i]; !isLetter(c) && !isDigit(c) && c != '-' {
			return false
		}
	}
	return true
}

func isLetter(c byte) bool {
	return 'A' <= c && c <= 'Z' || 'a' <= c && c <= 'z'
}

func isDigit(c byte) bool {
	return '0' <= c && c <= '9'
}
