package tide

import "draghead/api"

// Span returns the least Lo and the greatest Hi of the levels at x in a window (P2.3).
func Span(l []api.Gauge, x int, w api.Window) (api.Interval, api.Errno) {
	if e := checkLook(l, x, w); e != api.OK {
		return api.Interval{}, e
	}
	out, known := placeLevel(l, x, w.From)
	for minute := w.From; known && minute <= w.To; minute++ {
		var v api.Interval
		v, known = placeLevel(l, x, minute)
		out = api.Interval{Lo: min(out.Lo, v.Lo), Hi: max(out.Hi, v.Hi)}
	}
	if !known {
		return api.Interval{}, api.ErrNone
	}
	return out, api.OK
}

// Sure returns the windows in which the water is at least at a level, whatever is right within the intervals.
func Sure(l []api.Gauge, x, level int, w api.Window) ([]api.Window, api.Errno) {
	return windows(l, x, w, func(v api.Interval) bool { return v.Lo >= level })
}

// Possible returns the windows in which the water may be at least at a level.
func Possible(l []api.Gauge, x, level int, w api.Window) ([]api.Window, api.Errno) {
	return windows(l, x, w, func(v api.Interval) bool { return v.Hi >= level })
}

// First returns the first minute of the windows of Sure.
func First(l []api.Gauge, x, level int, w api.Window) (int, api.Errno) {
	all, e := Sure(l, x, level, w)
	if e != api.OK {
		return 0, e
	}
	if len(all) == 0 {
		return 0, api.ErrNone
	}
	return all[0].From, api.OK
}

// Longest returns the longest of the windows of Sure, the first one of several.
func Longest(l []api.Gauge, x, level int, w api.Window) (api.Window, api.Errno) {
	all, e := Sure(l, x, level, w)
	if e != api.OK {
		return api.Window{}, e
	}
	if len(all) == 0 {
		return api.Window{}, api.ErrNone
	}
	out := all[0]
	for _, v := range all {
		if v.To-v.From > out.To-out.From {
			out = v
		}
	}
	return out, api.OK
}

// windows returns the greatest windows within w in which the level at x is known and good at each minute.
func windows(l []api.Gauge, x int, w api.Window, good func(v api.Interval) bool) ([]api.Window, api.Errno) {
	if e := checkLook(l, x, w); e != api.OK {
		return nil, e
	}
	var out []api.Window
	for minute := w.From; minute <= w.To; minute++ {
		v, known := placeLevel(l, x, minute)
		if !known || !good(v) {
			continue
		}
		if n := len(out); n > 0 && out[n-1].To == minute-1 {
			out[n-1].To = minute
		} else {
			out = append(out, api.Window{From: minute, To: minute})
		}
	}
	return out, api.OK
}

// checkLook returns what is wrong when the levels at x are looked at in a window.
func checkLook(l []api.Gauge, x int, w api.Window) api.Errno {
	if e := CheckGauges(l); e != api.OK {
		return e
	}
	if !isPlace(x) {
		return api.ErrRange
	}
	return checkWindow(w)
}

func checkWindow(w api.Window) api.Errno {
	// The ends come first: the difference of two that are in range does not overflow.
	if !isMinute(w.From) || !isMinute(w.To) || !within(w.To-w.From, 0, api.MaxWindow) {
		return api.ErrRange
	}
	return api.OK
}
