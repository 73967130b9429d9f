package channel

import "draghead/api"

const (
	mostStep  = 100000 // centimetres between the offsets of a section
	mostCount = 100
)

// Along returns how far a place is along the channel, and how far from its axis (P5.2).
func Along(c api.Channel, p api.Point) (chainage, offset int, e api.Errno) {
	if e := checkPlace(c, p); e != api.OK {
		return 0, 0, e
	}
	l := holds(legs(c), p)
	if len(l) == 0 {
		return 0, 0, api.ErrNone
	}
	return l[0].chainage, l[0].offset, api.OK
}

// Design returns the design level at a place.
func Design(c api.Channel, p api.Point) (int, api.Errno) {
	if e := checkPlace(c, p); e != api.OK {
		return 0, e
	}
	level := designAt(legs(c), p)
	if level == none {
		return 0, api.ErrNone
	}
	return level, api.OK
}

// Section returns the design levels across the channel at a chainage (P5.3).
func Section(c api.Channel, q api.Station) ([]int, api.Errno) {
	if e := Check(c); e != api.OK {
		return nil, e
	}
	l := legs(c)
	if !within(q.Chainage, 0, length(l)) || !within(q.Step, 1, mostStep) || !within(q.Count, 0, mostCount) {
		return nil, api.ErrRange
	}
	across := profileAt(l, q.Chainage)
	out := make([]int, q.Count+1)
	for k := range out {
		out[k] = across.levelAt(k * q.Step)
	}
	return out, api.OK
}

// checkPlace returns what is wrong with a channel, or with a place that is looked for in it.
func checkPlace(c api.Channel, p api.Point) api.Errno {
	if e := Check(c); e != api.OK {
		return e
	}
	if !isPlace(p) {
		return api.ErrRange
	}
	return api.OK
}

// profileAt returns the profile at a chainage that is in range, where two legs meet that of the first one.
func profileAt(l []leg, chainage int) profile {
	for chainage > l[0].start+l[0].span {
		l = l[1:]
	}
	return l[0].profileAt(chainage-l[0].start, l[0].span)
}
