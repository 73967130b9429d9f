package trip

import (
	"cmp"
	"slices"

	"draghead/api"
	"draghead/tide"
)

const (
	mostMinutes = 1000 // of a reach
	mostClear   = 1000 // centimetres
)

// CheckFairway returns what is wrong with a fairway (P8.2).
func CheckFairway(f api.Fairway) api.Errno {
	return cmp.Or(tide.CheckGauges(f.Gauges), checkReaches(f.Reaches), checkClosures(f))
}

// Clearance returns how much water is surely under the keel.
func Clearance(f api.Fairway, reach string, draught, minute int) (int, api.Errno) {
	r, e := reachOf(f, reach)
	if e != api.OK {
		return 0, e
	}
	if !isDraught(draught) || !isMinute(minute) {
		return 0, api.ErrRange
	}
	v, e := tide.Level(f.Gauges, r.X, minute)
	if e != api.OK {
		return 0, e
	}
	return v.Lo - r.Level - draught, api.OK
}

// Open returns the windows in which a reach is open for a draught.
func Open(f api.Fairway, reach string, draught int, w api.Window) ([]api.Window, api.Errno) {
	r, e := reachOf(f, reach)
	if e != api.OK {
		return nil, e
	}
	if !isDraught(draught) {
		return nil, api.ErrRange
	}
	if e := checkWindow(w); e != api.OK {
		return nil, e
	}
	var out []api.Window
	for _, minute := range openMinutes(f, r, draught, w).list(w) {
		if n := len(out); n > 0 && out[n-1].To == minute-1 {
			out[n-1].To = minute
		} else {
			out = append(out, api.Window{From: minute, To: minute})
		}
	}
	return out, api.OK
}

func checkReaches(l []api.Reach) api.Errno {
	if len(l) == 0 {
		return api.ErrShape
	}
	if len(l) > api.MaxReaches {
		return api.ErrLarge
	}
	for i, r := range l {
		if !isName(r.Name) {
			return api.ErrName
		}
		if _, is := findReach(l[:i], r.Name); is {
			return api.ErrExists
		}
		if !inRange(r) {
			return api.ErrRange
		}
	}
	return api.OK
}

func inRange(r api.Reach) bool {
	return within(r.X, -api.MaxPlace, api.MaxPlace) && within(r.Level, -api.MaxLevel, api.MaxLevel) &&
		within(r.Minutes, 1, mostMinutes) && within(r.Clear, 0, mostClear)
}

func checkClosures(f api.Fairway) api.Errno {
	if len(f.Taken) > api.MaxTaken {
		return api.ErrLarge
	}
	for _, c := range f.Taken {
		if _, is := findReach(f.Reaches, c.Reach); !is {
			return api.ErrMissing
		}
		if !isMinute(c.From) || !isMinute(c.To) || c.From > c.To {
			return api.ErrRange
		}
	}
	return api.OK
}

// checkWindow returns the error of the window (P2.3).
func checkWindow(w api.Window) api.Errno {
	// The ends come first: the difference of two that are in range does not overflow.
	if !isMinute(w.From) || !isMinute(w.To) || !within(w.To-w.From, 0, api.MaxWindow) {
		return api.ErrRange
	}
	return api.OK
}

// reachOf returns a reach of a fairway, or what is wrong with the fairway, or that it has no such reach.
func reachOf(f api.Fairway, name string) (api.Reach, api.Errno) {
	if e := CheckFairway(f); e != api.OK {
		return api.Reach{}, e
	}
	r, is := findReach(f.Reaches, name)
	if !is {
		return api.Reach{}, api.ErrMissing
	}
	return r, api.OK
}

func findReach(l []api.Reach, name string) (api.Reach, bool) {
	i := slices.IndexFunc(l, func(r api.Reach) bool { return r.Name == name })
	if i < 0 {
		return api.Reach{}, false
	}
	return l[i], true
}
