package trip_test

import (
	"slices"

	"draghead/api"
	"draghead/tide"
)

// The terms of the chapter once more, minute by minute and trip by trip.

// shut is the reason for which a reach is not open at a minute, or OK.
func shut(f api.Fairway, r api.Reach, draught, minute int) api.Errno {
	v, e := tide.Level(f.Gauges, r.X, minute)
	if e != api.OK {
		return api.ErrNone
	}
	if v.Lo-r.Level-draught < r.Clear {
		return api.ErrWater
	}
	for _, c := range f.Taken {
		if c.Reach == r.Name && c.From <= minute && minute <= c.To {
			return api.ErrTraffic
		}
	}
	return api.OK
}

// course is the reaches in the order of a passage.
func course(f api.Fairway, p api.Passage) []api.Reach {
	var out []api.Reach
	for k := range f.Reaches {
		if p.Back {
			k = len(f.Reaches) - 1 - k
		}
		out = append(out, f.Reaches[k])
	}
	return out
}

// chart is for each reach of a passage the minutes of its window at which it is open.
func chart(f api.Fairway, p api.Passage) []map[int]bool {
	var out []map[int]bool
	for _, r := range course(f, p) {
		open := map[int]bool{}
		for minute := p.From; minute <= p.To; minute++ {
			open[minute] = shut(f, r, p.Draught, minute) == api.OK
		}
		out = append(out, open)
	}
	return out
}

// mayStay reports whether a ship may be in a reach from a minute to the one before it leaves.
func mayStay(r api.Reach, open map[int]bool, enter, leave int) bool {
	for minute := enter; minute < leave; minute++ {
		if !open[minute] {
			return false
		}
	}
	return leave-enter == r.Minutes || leave-enter > r.Minutes && r.Wait
}

// everyTrip is all right trips, in lexicographic order of the minutes of entry, and then by Out.
func everyTrip(f api.Fairway, p api.Passage) []api.Trip {
	reaches, open := course(f, p), chart(f, p)
	var out []api.Trip
	var grow func(enter []int)
	grow = func(enter []int) {
		k := len(enter) - 1
		for leave := enter[k] + 1; leave <= p.To; leave++ {
			if !mayStay(reaches[k], open[k], enter[k], leave) {
				continue
			}
			if k == len(reaches)-1 {
				out = append(out, api.Trip{Ship: p.Ship, Enter: slices.Clone(enter), Out: leave})
			} else {
				grow(append(slices.Clone(enter), leave))
			}
		}
	}
	for first := p.From; first <= p.To; first++ {
		grow([]int{first})
	}
	return out
}

// earliestOf is the first one of trips with the least Out.
func earliestOf(l []api.Trip) api.Trip {
	return slices.MinFunc(l, func(a, b api.Trip) int { return a.Out - b.Out })
}

// latestOf is the trip with the greatest first entry, of several that with the least Out, the first one of these.
func latestOf(l []api.Trip) api.Trip {
	return slices.MinFunc(l, func(a, b api.Trip) int {
		if a.Enter[0] != b.Enter[0] {
			return b.Enter[0] - a.Enter[0]
		}
		return a.Out - b.Out
	})
}

// departuresOf is all first minutes of entry.
func departuresOf(l []api.Trip) []int {
	var out []int
	for _, t := range l {
		out = append(out, t.Enter[0])
	}
	slices.Sort(out)
	return slices.Compact(out)
}

// lists is for each reach the set of the minutes of a closed list.
func lists(c api.Closed) []map[int]bool {
	var out []map[int]bool
	for _, l := range c.Enter {
		set := map[int]bool{}
		for _, minute := range l {
			set[minute] = true
		}
		out = append(out, set)
	}
	return out
}

// proves reports whether a closed list is a proof.
func proves(f api.Fairway, p api.Passage, c api.Closed) bool {
	reaches, open, in := course(f, p), chart(f, p), lists(c)
	for minute := p.From; minute <= p.To; minute++ {
		if open[0][minute] && !in[0][minute] {
			return false
		}
	}
	for k, r := range reaches {
		for m := range in[k] {
			for u := m + 1; u <= p.To; u++ {
				if mayStay(r, open[k], m, u) && (k == len(reaches)-1 || open[k+1][u] && !in[k+1][u]) {
					return false
				}
			}
		}
	}
	return true
}

// leastProof is the minutes at which the reaches can be entered, one after another.
func leastProof(f api.Fairway, p api.Passage) api.Closed {
	reaches, open := course(f, p), chart(f, p)
	out := api.Closed{Enter: make([][]int, len(reaches))}
	for u := p.From; u <= p.To; u++ {
		for k := range reaches {
			comes := func(m int) bool { return mayStay(reaches[k-1], open[k-1], m, u) }
			if open[k][u] && (k == 0 || slices.ContainsFunc(out.Enter[k-1], comes)) {
				out.Enter[k] = append(out.Enter[k], u)
			}
		}
	}
	return out
}

// firstFault is the first fault of a trip with the right number of minutes.
func firstFault(f api.Fairway, p api.Passage, t api.Trip) api.Fault {
	reaches := course(f, p)
	last := len(reaches) - 1
	if t.Enter[0] < p.From {
		return fault(t.Enter[0], reaches[0].Name, api.ErrRange)
	}
	for k, r := range reaches {
		leave := t.Out
		if k < last {
			leave = t.Enter[k+1]
		}
		if leave-t.Enter[k] < r.Minutes {
			return fault(t.Enter[k], r.Name, api.ErrOrder)
		}
		if leave-t.Enter[k] > r.Minutes && !r.Wait {
			return fault(t.Enter[k], r.Name, api.ErrState)
		}
		for minute := t.Enter[k]; minute < leave; minute++ {
			if e := shut(f, r, p.Draught, minute); e != api.OK {
				return fault(minute, r.Name, e)
			}
		}
	}
	if t.Out > p.To {
		return fault(t.Out, reaches[last].Name, api.ErrRange)
	}
	return api.Fault{}
}

// placeAt is the reach in which a ship is at a minute, or none.
func placeAt(f api.Fairway, p api.Passage, t api.Trip, minute int) string {
	place := ""
	for k, r := range course(f, p) {
		if t.Enter[k] <= minute && minute < t.Out {
			place = r.Name
		}
	}
	return place
}

// occupiedBy is the closures that a trip makes.
func occupiedBy(f api.Fairway, p api.Passage, t api.Trip) []api.Taken {
	var out []api.Taken
	for _, r := range course(f, p) {
		var l []int
		for minute := p.From; minute <= p.To; minute++ {
			if r.One && placeAt(f, p, t, minute) == r.Name {
				l = append(l, minute)
			}
		}
		if len(l) > 0 {
			out = append(out, closure(r.Name, l[0], l[len(l)-1]))
		}
	}
	return out
}

// meetings is where two ships are at a common minute.
func meetings(f api.Fairway, p, q api.Passage, t, u api.Trip) []api.Fault {
	var out []api.Fault
	for _, r := range f.Reaches {
		for minute := p.From; r.One && minute <= p.To; minute++ {
			if placeAt(f, p, t, minute) == r.Name && placeAt(f, q, u, minute) == r.Name {
				out = append(out, fault(minute, r.Name, api.ErrTraffic))
				break
			}
		}
	}
	return out
}

// plan is the timetable of passages in an order, and whether there is one.
func plan(f api.Fairway, l []api.Passage, order []int) ([]api.Trip, bool) {
	var out []api.Trip
	for _, k := range order {
		all := everyTrip(f, l[k])
		if len(all) == 0 {
			return nil, false
		}
		t := earliestOf(all)
		out = append(out, t)
		for _, c := range occupiedBy(f, l[k], t) {
			f = taken(f, c.Reach, c.From, c.To)
		}
	}
	return out, true
}

// everyOrder is all orders of the numbers below n, the lexicographically first one first.
func everyOrder(n int) [][]int {
	out := [][]int{nil}
	for range n {
		var longer [][]int
		for _, l := range out {
			for k := range n {
				if !slices.Contains(l, k) {
					longer = append(longer, append(slices.Clone(l), k))
				}
			}
		}
		out = longer
	}
	return out
}

// bestPlan is the order with the least sum of Out, the sum, and whether there is one.
func bestPlan(f api.Fairway, l []api.Passage) ([]int, int, bool) {
	var best []int
	least := -1
	for _, order := range everyOrder(len(l)) {
		trips, is := plan(f, l, order)
		sum := 0
		for _, t := range trips {
			sum += t.Out
		}
		if is && (least < 0 || sum < least) {
			best, least = order, sum
		}
	}
	return best, least, least >= 0
}

// fairway is a small fairway with water for draughts up to about 30 in the first 30 minutes.
func (s *numbers) fairway() api.Fairway {
	var f api.Fairway
	for k := range 1 + s.next(2) {
		g := gauge(letter(k), 50*k, s.next(3))
		minute := s.next(3)
		for minute < 40 {
			g.Marks = append(g.Marks, mark(minute, s.next(21)))
			minute += 1 + s.next(12)
		}
		f.Gauges = append(f.Gauges, g)
	}
	for k := range 1 + s.next(3) {
		r := api.Reach{Name: letter(k), X: s.next(80) - 10, Level: -10 - s.next(10), Minutes: 1 + s.next(4), Clear: s.next(6), Wait: s.is(2), One: s.is(2)}
		f.Reaches = append(f.Reaches, r)
	}
	for range s.next(3) {
		from := s.next(25)
		f = taken(f, letter(s.next(len(f.Reaches))), from, from+s.next(4))
	}
	return f
}

// passage is a passage within the first 30 minutes.
func (s *numbers) passage(ship string) api.Passage {
	from := s.next(8)
	return api.Passage{Ship: ship, Draught: 5 + s.next(15), From: from, To: from + s.next(22), Back: s.is(2)}
}
