package trip

import (
	"slices"

	"draghead/api"
	"draghead/tide"
)

// stay is a ship in a reach, from a minute up to the one before it leaves.
type stay struct {
	api.Reach
	enter, leave int
}

// CheckTrip returns what is wrong with a trip (P8.3).
func CheckTrip(f api.Fairway, p api.Passage, t api.Trip) (api.Fault, api.Errno) {
	if e := checkForm(f, p, t); e != api.OK {
		return api.Fault{}, e
	}
	v := faultOf(f, p, t)
	return v, v.Reason
}

// Occupied returns the closures that a trip makes (P8.7).
func Occupied(f api.Fairway, p api.Passage, t api.Trip) ([]api.Taken, api.Errno) {
	if _, e := CheckTrip(f, p, t); e != api.OK {
		return nil, e
	}
	return occupied(staysOf(f, p, t)), api.OK
}

// Meets returns where both ships are at a minute in a reach for one ship.
func Meets(f api.Fairway, p, q api.Passage, t, u api.Trip) ([]api.Fault, api.Errno) {
	if _, e := CheckTrip(f, p, t); e != api.OK {
		return nil, e
	}
	if _, e := CheckTrip(f, q, u); e != api.OK {
		return nil, e
	}
	others := staysOnward(f, q, u)
	var out []api.Fault
	for k, s := range staysOnward(f, p, t) {
		o := others[k]
		if minute := max(s.enter, o.enter); s.One && minute < min(s.leave, o.leave) {
			out = append(out, api.Fault{Minute: minute, Reach: s.Name, Reason: api.ErrTraffic})
		}
	}
	return out, api.OK
}

// checkForm returns the first of the errors of a trip for which there is no fault.
func checkForm(f api.Fairway, p api.Passage, t api.Trip) api.Errno {
	if e := checkPassage(f, p); e != api.OK {
		return e
	}
	if t.Ship != p.Ship {
		return api.ErrMissing
	}
	if len(t.Enter) != len(f.Reaches) {
		return api.ErrShape
	}
	return checkMinutes(t)
}

func checkMinutes(t api.Trip) api.Errno {
	if slices.ContainsFunc(t.Enter, func(n int) bool { return !isMinute(n) }) || !isMinute(t.Out) {
		return api.ErrRange
	}
	return api.OK
}

// faultOf returns the first fault of a trip, or the zero value.
func faultOf(f api.Fairway, p api.Passage, t api.Trip) api.Fault {
	all := staysOf(f, p, t)
	if t.Enter[0] < p.From {
		return api.Fault{Minute: t.Enter[0], Reach: all[0].Name, Reason: api.ErrRange}
	}
	for _, s := range all {
		if v := s.fault(f, p.Draught); v.Reason != api.OK {
			return v
		}
	}
	if t.Out > p.To {
		return api.Fault{Minute: t.Out, Reach: all[len(all)-1].Name, Reason: api.ErrRange}
	}
	return api.Fault{}
}

// staysOf returns the stays of a trip in its order.
func staysOf(f api.Fairway, p api.Passage, t api.Trip) []stay {
	leaves := append(slices.Clone(t.Enter[1:]), t.Out)
	var out []stay
	for k, r := range along(f, p) {
		out = append(out, stay{r, t.Enter[k], leaves[k]})
	}
	return out
}

// staysOnward returns the stays of a trip in the order of the fairway.
func staysOnward(f api.Fairway, p api.Passage, t api.Trip) []stay {
	out := staysOf(f, p, t)
	if p.Back {
		slices.Reverse(out)
	}
	return out
}

// occupied returns the closures that stays make.
func occupied(l []stay) []api.Taken {
	var out []api.Taken
	for _, s := range l {
		if s.One {
			out = append(out, api.Taken{Reach: s.Name, From: s.enter, To: s.leave - 1})
		}
	}
	return out
}

// fault returns the first fault of a stay, or the zero value.
func (s stay) fault(f api.Fairway, draught int) api.Fault {
	n := s.leave - s.enter
	if n < s.Minutes {
		return api.Fault{Minute: s.enter, Reach: s.Name, Reason: api.ErrOrder}
	}
	if n > s.Minutes && !s.Wait {
		return api.Fault{Minute: s.enter, Reach: s.Name, Reason: api.ErrState}
	}
	// A ship may wait for longer than minutes are looked at together.
	for from := s.enter; from < s.leave; from += api.MaxWindow + 1 {
		w := api.Window{From: from, To: min(from+api.MaxWindow, s.leave-1)}
		open := openMinutes(f, s.Reach, draught, w)
		for minute := w.From; minute <= w.To; minute++ {
			if !open[minute-w.From] {
				return api.Fault{Minute: minute, Reach: s.Name, Reason: whyShut(f, s.Reach, draught, minute)}
			}
		}
	}
	return api.Fault{}
}

// whyShut returns the reason for which a reach is not open at a minute.
func whyShut(f api.Fairway, r api.Reach, draught, minute int) api.Errno {
	v, e := tide.Level(f.Gauges, r.X, minute)
	if e != api.OK {
		return e
	}
	if v.Lo-r.Level-draught < r.Clear {
		return api.ErrWater
	}
	return api.ErrTraffic
}
