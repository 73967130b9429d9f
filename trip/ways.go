package trip

import (
	"cmp"
	"slices"

	"draghead/api"
)

// way is a passage, and its reaches in its order.
type way struct {
	api.Passage
	legs []leg
}

// leg is a reach, and the minutes of the passage at which it is open.
type leg struct {
	api.Reach
	open minutes
}

// checkPassage returns what is wrong with a fairway, or with a passage along it (P8.3).
func checkPassage(f api.Fairway, p api.Passage) api.Errno {
	return cmp.Or(CheckFairway(f), passageError(p))
}

// passageError returns the error of the passage.
func passageError(p api.Passage) api.Errno {
	if !isName(p.Ship) {
		return api.ErrName
	}
	if !isDraught(p.Draught) {
		return api.ErrRange
	}
	return checkWindow(windowOf(p))
}

func windowOf(p api.Passage) api.Window {
	return api.Window{From: p.From, To: p.To}
}

// along returns the reaches of a fairway in the order of a passage.
func along(f api.Fairway, p api.Passage) []api.Reach {
	out := slices.Clone(f.Reaches)
	if p.Back {
		slices.Reverse(out)
	}
	return out
}

// wayOf returns the way of a passage, both it and the fairway without errors.
func wayOf(f api.Fairway, p api.Passage) way {
	out := way{Passage: p}
	for _, r := range along(f, p) {
		out.legs = append(out.legs, leg{r, openMinutes(f, r, p.Draught, windowOf(p))})
	}
	return out
}

// without returns the way with more closures.
func (w way) without(closures []api.Taken) way {
	out := way{Passage: w.Passage}
	for _, l := range w.legs {
		out.legs = append(out.legs, leg{l.Reach, l.open.without(w.window(), l.Name, closures)})
	}
	return out
}

func (w way) window() api.Window {
	return windowOf(w.Passage)
}

// earliest returns the earliest of the trips that enter not before a minute, and whether there is one.
func (w way) earliest(from int) (api.Trip, bool) {
	outs := w.entries(from)[len(w.legs)].list(w.window())
	if len(outs) == 0 {
		return api.Trip{}, false
	}
	return w.tripTo(from, outs[0]), true
}

// entries returns for each leg the minutes at which a ship may come to enter it that enters the first one not before a minute, and at last those at which it may be out.
func (w way) entries(from int) []minutes {
	first := w.legs[0].open
	first.fill(w.window(), api.Window{From: w.From, To: from - 1}, false)
	out := []minutes{first}
	for k := range w.legs {
		out = append(out, w.next(k, out[k]))
	}
	return out
}

// next returns the minutes at which a ship can leave a leg that enters it at one of these, if it can enter the next leg, or is out.
func (w way) next(k int, enter minutes) minutes {
	out := w.legs[k].exits(enter, w.To-w.From+1)
	if k+1 < len(w.legs) {
		return out.and(w.legs[k+1].open)
	}
	return out
}

// tripTo returns the first, in lexicographic order, of the trips that enter not before a minute and are out at one; there is such a trip.
func (w way) tripTo(from, out int) api.Trip {
	starts := w.starts(setOf(w.window(), []int{out}))
	t := api.Trip{Ship: w.Ship, Out: out}
	minute := from - w.From
	for k, l := range w.legs {
		// If a stay from here leads on, then so does the shortest one that may: longer ones need all of its minutes.
		minute = starts[k].from(minute)
		t.Enter = append(t.Enter, w.From+minute)
		minute += l.Minutes
	}
	return t
}

// starts returns for each leg the minutes at which a ship may enter it that is to be out at one of these.
func (w way) starts(out minutes) []minutes {
	l := make([]minutes, len(w.legs))
	for k, x := range slices.Backward(w.legs) {
		out = x.starts(out, w.To-w.From+1)
		l[k] = out
	}
	return l
}

// departures returns the minutes at which right trips enter the first leg, ascending.
func (w way) departures() []int {
	var all minutes
	all.fill(w.window(), w.window(), true)
	return w.starts(all)[0].list(w.window())
}

// exits returns those of n minutes at which a ship can leave the leg that enters it at one of these.
func (l leg) exits(enter minutes, n int) minutes {
	var out minutes
	run := 0   // how many minutes up to u the leg has been open
	last := -1 // the last minute of entry that is early enough; from -1 on it has never been open
	for u := range n {
		if m := u - l.Minutes; m >= 0 && enter[m] {
			last = m
		}
		out[u] = l.allows(u-last, run)
		run++
		if !l.open[u] {
			run = 0
		}
	}
	return out
}

// starts returns those of n minutes at which a ship can enter the leg to leave it at one of these.
func (l leg) starts(leave minutes, n int) minutes {
	var out minutes
	run := 0       // how many minutes from m on the leg is open
	first := n + 1 // the first minute of exit that is late enough; up to n + 1 it is never open
	for m := n - 1; m >= 0; m-- {
		if u := m + l.Minutes; u < n && leave[u] {
			first = u
		}
		run++
		if !l.open[m] {
			run = 0
		}
		out[m] = l.allows(first-m, run)
	}
	return out
}

// allows reports whether a stay that is long enough is right, if the leg is open for so many minutes.
func (l leg) allows(stay, open int) bool {
	return stay <= open && (l.Wait || stay == l.Minutes)
}
