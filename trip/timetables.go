package trip

import (
	"iter"
	"slices"

	"draghead/api"
)

// Timetable returns trips for passages, each one the earliest behind those before it (P8.7).
func Timetable(f api.Fairway, l []api.Passage) ([]api.Trip, api.Errno) {
	all, e := waysOf(f, l)
	if e != api.OK {
		return nil, e
	}
	trips, is := timetable(f, all)
	if !is {
		return nil, api.ErrNone
	}
	return trips, api.OK
}

// BestOrder returns the order of passages with the least sum of the minutes at which they are out, and this sum.
func BestOrder(f api.Fairway, l []api.Passage) ([]int, int, api.Errno) {
	all, e := waysOf(f, l)
	if e != api.OK {
		return nil, 0, e
	}
	var best []int
	least, found := 0, false
	for order := range orders(len(all)) {
		trips, is := timetable(f, inOrder(all, order))
		if sum := sumOut(trips); is && (!found || sum < least) {
			best, least, found = order, sum, true
		}
	}
	if !found {
		return nil, 0, api.ErrNone
	}
	return best, least, api.OK
}

// waysOf returns the ways of passages, or what is wrong with them or the fairway.
func waysOf(f api.Fairway, l []api.Passage) ([]way, api.Errno) {
	if e := checkPassages(f, l); e != api.OK {
		return nil, e
	}
	var out []way
	for _, p := range l {
		out = append(out, wayOf(f, p))
	}
	return out, api.OK
}

func checkPassages(f api.Fairway, l []api.Passage) api.Errno {
	if e := CheckFairway(f); e != api.OK {
		return e
	}
	if len(l) > api.MaxShips {
		return api.ErrLarge
	}
	for i, p := range l {
		if e := passageError(p); e != api.OK {
			return e
		}
		if slices.ContainsFunc(l[:i], func(q api.Passage) bool { return q.Ship == p.Ship }) {
			return api.ErrExists
		}
	}
	return api.OK
}

// timetable returns trips for ways, and whether each one has a trip.
func timetable(f api.Fairway, l []way) ([]api.Trip, bool) {
	var out []api.Trip
	var closures []api.Taken
	for _, w := range l {
		t, is := w.without(closures).earliest(w.From)
		if !is {
			return nil, false
		}
		out = append(out, t)
		closures = append(closures, occupied(staysOf(f, w.Passage, t))...)
	}
	return out, true
}

func sumOut(l []api.Trip) int {
	sum := 0
	for _, t := range l {
		sum += t.Out
	}
	return sum
}

func inOrder(l []way, order []int) []way {
	var out []way
	for _, k := range order {
		out = append(out, l[k])
	}
	return out
}

// orders yields all orders of the numbers below n, in lexicographic order.
func orders(n int) iter.Seq[[]int] {
	return func(yield func([]int) bool) { extend(nil, n, yield) }
}

// extend yields all orders that begin in a way, and reports whether more are asked for.
func extend(begun []int, n int, yield func([]int) bool) bool {
	if len(begun) == n {
		return yield(slices.Clone(begun))
	}
	for k := range n {
		if !slices.Contains(begun, k) && !extend(append(begun, k), n, yield) {
			return false
		}
	}
	return true
}
