package trip

import "draghead/api"

// Earliest returns the earliest trip, or the least proof that there is none (P8.4).
func Earliest(f api.Fairway, p api.Passage) (api.Trip, api.Closed, api.Errno) {
	if e := checkPassage(f, p); e != api.OK {
		return api.Trip{}, api.Closed{}, e
	}
	w := wayOf(f, p)
	t, is := w.earliest(p.From)
	if !is {
		return api.Trip{}, w.proof(), api.ErrNone
	}
	return t, api.Closed{}, api.OK
}

// CheckClosed accepts a proof that there is no trip.
func CheckClosed(f api.Fairway, p api.Passage, c api.Closed) api.Errno {
	if e := checkPassage(f, p); e != api.OK {
		return e
	}
	if len(c.Enter) != len(f.Reaches) {
		return api.ErrShape
	}
	for _, l := range c.Enter {
		if e := checkList(p, l); e != api.OK {
			return e
		}
	}
	if !wayOf(f, p).isProof(c) {
		return api.ErrProof
	}
	return api.OK
}

// Latest returns the trip that enters last (P8.5).
func Latest(f api.Fairway, p api.Passage) (api.Trip, api.Errno) {
	if e := checkPassage(f, p); e != api.OK {
		return api.Trip{}, e
	}
	w := wayOf(f, p)
	all := w.departures()
	if len(all) == 0 {
		return api.Trip{}, api.ErrNone
	}
	// No trip enters after the last minute of entry: those that enter not before it enter at it.
	t, _ := w.earliest(all[len(all)-1])
	return t, api.OK
}

// Departures returns the minutes at which trips begin.
func Departures(f api.Fairway, p api.Passage) ([]int, api.Errno) {
	if e := checkPassage(f, p); e != api.OK {
		return nil, e
	}
	return wayOf(f, p).departures(), api.OK
}

// checkList returns what is wrong with a list of minutes of entry.
func checkList(p api.Passage, l []int) api.Errno {
	for i, minute := range l {
		if !within(minute, p.From, p.To) {
			return api.ErrRange
		}
		if i > 0 && minute <= l[i-1] {
			return api.ErrOrder
		}
	}
	return api.OK
}

// proof returns just the minutes that a proof requires, for a way without trips.
func (w way) proof() api.Closed {
	var out api.Closed
	for _, m := range w.entries(w.From)[:len(w.legs)] {
		out.Enter = append(out.Enter, m.list(w.window()))
	}
	return out
}

// isProof reports whether lists of minutes prove that there is no trip.
func (w way) isProof(c api.Closed) bool {
	required := w.legs[0].open
	for k := range w.legs {
		listed := setOf(w.window(), c.Enter[k])
		if required.and(listed) != required {
			return false
		}
		required = w.next(k, listed)
	}
	// Behind the last reach required are the minutes at which a ship is out.
	return required == minutes{}
}
