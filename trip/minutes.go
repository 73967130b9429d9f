package trip

import (
	"slices"

	"draghead/api"
	"draghead/tide"
)

// minutes tells for each minute of a window, the first one being 0, whether it belongs to a set.
type minutes [api.MaxWindow + 1]bool

// openMinutes returns the minutes of a window at which a reach of a fairway is open.
func openMinutes(f api.Fairway, r api.Reach, draught int, w api.Window) minutes {
	var out minutes
	// The gauges, the reach and the window are checked: there is no error.
	deep, _ := tide.Sure(f.Gauges, r.X, r.Level+draught+r.Clear, w)
	for _, part := range deep {
		out.fill(w, part, true)
	}
	return out.without(w, r.Name, f.Taken)
}

// without returns the minutes that no closure of a reach has.
func (m minutes) without(w api.Window, reach string, closures []api.Taken) minutes {
	for _, c := range closures {
		if c.Reach == reach {
			m.fill(w, api.Window{From: c.From, To: c.To}, false)
		}
	}
	return m
}

// fill says of the minutes of a part, as far as w has them, whether they belong to the set.
func (m *minutes) fill(w, part api.Window, is bool) {
	for minute := max(w.From, part.From); minute <= min(w.To, part.To); minute++ {
		m[minute-w.From] = is
	}
}

// setOf returns the set of minutes of w that are in a list.
func setOf(w api.Window, l []int) minutes {
	var out minutes
	for _, minute := range l {
		out[minute-w.From] = true
	}
	return out
}

// list returns the minutes of the set, ascending.
func (m minutes) list(w api.Window) []int {
	var out []int
	for minute := w.From; minute <= w.To; minute++ {
		if m[minute-w.From] {
			out = append(out, minute)
		}
	}
	return out
}

// and returns the minutes that are in both sets.
func (m minutes) and(o minutes) minutes {
	for i, is := range o {
		m[i] = m[i] && is
	}
	return m
}

// from returns the index of the first minute of the set that has at least an index; there is one.
func (m minutes) from(i int) int {
	return i + slices.Index(m[i:], true)
}
