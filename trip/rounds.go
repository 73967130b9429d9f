package trip

import (
	"cmp"

	"draghead/api"
)

// mostWork is the greatest time of dredging and of dumping, in minutes.
const mostWork = 1000

// shift is rounds of a hopper, with its ways out and home for all of the time.
type shift struct {
	work      api.Work
	out, home way
}

// NextRound returns the next round of a hopper (P8.8).
func NextRound(f api.Fairway, w api.Work) (api.Round, api.Errno) {
	s, e := shiftOf(f, w)
	if e != api.OK {
		return api.Round{}, e
	}
	r, is := s.round(w.From)
	if !is {
		return api.Round{}, api.ErrNone
	}
	return r, api.OK
}

// Rounds returns one round after another, as many as there are.
func Rounds(f api.Fairway, w api.Work) ([]api.Round, api.Errno) {
	s, e := shiftOf(f, w)
	if e != api.OK {
		return nil, e
	}
	var out []api.Round
	for r, is := s.round(w.From); is; r, is = s.round(r.Home.Out) {
		out = append(out, r)
	}
	return out, api.OK
}

// shiftOf returns the shift of work, or what is wrong with it.
func shiftOf(f api.Fairway, w api.Work) (shift, api.Errno) {
	if e := cmp.Or(CheckFairway(f), CheckHopper(w.Hopper), checkTimes(w)); e != api.OK {
		return shift{}, e
	}
	loaded, e := Draught(w.Hopper, w.Mass)
	if e != api.OK {
		return shift{}, e
	}
	out := api.Passage{Ship: w.Hopper.Name, Draught: loaded, From: w.From, To: w.Until}
	home := out
	home.Draught, home.Back = w.Hopper.Lines[0].Draught, true
	return shift{w, wayOf(f, out), wayOf(f, home)}, api.OK
}

func checkTimes(w api.Work) api.Errno {
	if !within(w.Dredge, 0, mostWork) || !within(w.Dump, 0, mostWork) {
		return api.ErrRange
	}
	return checkWindow(api.Window{From: w.From, To: w.Until})
}

// round returns the round whose dredging begins at a minute, and whether there is one.
func (s shift) round(from int) (api.Round, bool) {
	out, is := s.out.earliest(from + s.work.Dredge)
	if !is {
		return api.Round{}, false
	}
	dump := out.Out + s.work.Dump
	home, is := s.home.earliest(dump)
	if !is {
		return api.Round{}, false
	}
	return api.Round{Out: out, Dump: dump, Home: home}, true
}
