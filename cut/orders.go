package cut

import (
	"maps"
	"slices"

	"draghead/api"
)

// step is what becomes of a cut on the bed behind a set of cuts: the rule by which it is refused, if there is one, and its price. For a cut of the set it is the zero value.
type step struct {
	rule  api.Errno
	price int
}

// web is, for each set of cuts that can be reached, what becomes of all cuts.
type web map[int][]step

// way is how to go on from a set of cuts: the next cut, and the cost up to the end.
type way struct{ next, cost int }

// Ordered returns the first order of cuts, or a proof that there is none (P7.5).
func Ordered(s api.Site, l []api.Cut) ([]int, []api.Blocked, api.Errno) {
	if e := checkFew(s, l); e != api.OK {
		return nil, nil, e
	}
	w := fieldOf(s).web(l)
	order, _, is := w.order(len(l), func(step) int { return 0 })
	if !is {
		return nil, w.proof(), api.ErrNone
	}
	return order, nil, api.OK
}

// CheckBlocked accepts a proof that there is no order.
func CheckBlocked(s api.Site, l []api.Cut, b []api.Blocked) api.Errno {
	if e := checkFew(s, l); e != api.OK {
		return e
	}
	if !fieldOf(s).isProof(l, b) {
		return api.ErrProof
	}
	return api.OK
}

// Cheapest returns the order that costs least, and what it costs.
func Cheapest(s api.Site, l []api.Cut) ([]int, int, api.Errno) {
	if e := checkFew(s, l); e != api.OK {
		return nil, 0, e
	}
	order, cost, is := fieldOf(s).web(l).order(len(l), func(s step) int { return s.price })
	if !is {
		return nil, 0, api.ErrNone
	}
	return order, cost, api.OK
}

// checkFew returns what is wrong with cuts that are put in order.
func checkFew(s api.Site, l []api.Cut) api.Errno {
	if e := CheckCuts(s, l); e != api.OK {
		return e
	}
	if len(l) > api.MaxOrder {
		return api.ErrLarge
	}
	return api.OK
}

// allOf is the set of all of n cuts.
func allOf(n int) int {
	return 1<<n - 1
}

// with is the set with one more cut, or the set itself if it has this cut.
func with(set, cut int) int {
	return set | 1<<cut
}

// steps returns what becomes of each cut on the bed behind a set.
func (f field) steps(l []api.Cut, set int) []step {
	var done []api.Cut
	for k, c := range l {
		if with(set, k) == set {
			done = append(done, c)
		}
	}
	bed := behind(f.Bed, done)
	out := make([]step, len(l))
	for k, c := range l {
		if with(set, k) != set {
			j := f.job(bed, c)
			v, _ := firstBroken(j.keepRules)
			out[k] = step{v.Rule, j.effort.price}
		}
	}
	return out
}

func (f field) web(l []api.Cut) web {
	out := web{0: f.steps(l, 0)}
	// A set is only reached from lesser ones.
	for set := range allOf(len(l)) {
		for k, s := range out[set] {
			next := with(set, k)
			if _, is := out[next]; !is && s.rule == api.OK {
				out[next] = f.steps(l, next)
			}
		}
	}
	return out
}

// order returns the first one of the orders of n cuts that cost least, what it costs, and whether there is one.
func (w web) order(n int, price func(step) int) ([]int, int, bool) {
	ways := w.ways(n, price)
	start, is := ways[0]
	if !is {
		return nil, 0, false
	}
	var out []int
	for set := 0; set != allOf(n); set = with(set, ways[set].next) {
		out = append(out, ways[set].next)
	}
	return out, start.cost, true
}

// ways returns, for each set that can be reached and from which all n cuts can be made, the first one of the ways that cost least.
func (w web) ways(n int, price func(step) int) map[int]way {
	out := map[int]way{allOf(n): {}}
	for set := allOf(n) - 1; set >= 0; set-- {
		for k, s := range w[set] {
			rest, ends := out[with(set, k)]
			if !ends || s.rule != api.OK || with(set, k) == set {
				continue
			}
			cost := price(s) + rest.cost
			if best, is := out[set]; !is || cost < best.cost {
				out[set] = way{k, cost}
			}
		}
	}
	return out
}

// proof is that there is no order, for a web without the set of all cuts.
func (w web) proof() []api.Blocked {
	var out []api.Blocked
	for _, set := range slices.Sorted(maps.Keys(w)) {
		b := api.Blocked{Set: set}
		for _, s := range w[set] {
			b.Rules = append(b.Rules, s.rule)
		}
		out = append(out, b)
	}
	return out
}

func (f field) isProof(l []api.Cut, b []api.Blocked) bool {
	if len(b) == 0 || b[0].Set != 0 {
		return false
	}
	sets := map[int]bool{}
	for k, x := range b {
		if k > 0 && x.Set <= b[k-1].Set || x.Set >= allOf(len(l)) || len(x.Rules) != len(l) {
			return false
		}
		sets[x.Set] = true
	}
	return !slices.ContainsFunc(b, func(x api.Blocked) bool { return !f.isBlocked(l, x, sets) })
}

// isBlocked reports whether a set has the right rules, and leads only to others of the sets.
func (f field) isBlocked(l []api.Cut, b api.Blocked, sets map[int]bool) bool {
	for k, s := range f.steps(l, b.Set) {
		if s.rule != b.Rules[k] || s.rule == api.OK && !sets[with(b.Set, k)] {
			return false
		}
	}
	return true
}
