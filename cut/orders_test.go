package cut_test

import (
	"math"
	"slices"
	"testing"

	"draghead/api"
	"draghead/cut"
)

// rules makes a set of a proof.
func rules(set int, l ...api.Errno) api.Blocked { return api.Blocked{Set: set, Rules: l} }

// sameOrders fails the test unless these are the first order and the cheapest one.
func sameOrders(t *testing.T, s api.Site, l []api.Cut, first, cheapest []int, cost int, about ...any) {
	t.Helper()
	order, proof, e := cut.Ordered(s, l)
	same(t, e, api.OK, "Ordered", about...)
	sameList(t, order, first, "Ordered", about...)
	same(t, len(proof), 0, "Ordered: the proof", about...)
	order, n, e := cut.Cheapest(s, l)
	same(t, e, api.OK, "Cheapest", about...)
	sameList(t, order, cheapest, "Cheapest", about...)
	same(t, n, cost, "Cheapest: the cost", about...)
}

// noOrders fails the test unless this is the proof that there is no order.
func noOrders(t *testing.T, s api.Site, l []api.Cut, want []api.Blocked, about ...any) {
	t.Helper()
	order, proof, e := cut.Ordered(s, l)
	same(t, e, api.ErrNone, "Ordered", about...)
	same(t, len(order), 0, "Ordered: the order", about...)
	sameProof(t, proof, want, "Ordered", about...)
	same(t, cut.CheckBlocked(s, l, proof), api.OK, "CheckBlocked", about...)
	same(t, ofTwo(cut.Cheapest(s, l)), refused(api.ErrNone), "Cheapest", about...)
}

func TestP75Examples(t *testing.T) {
	s := level()
	a, b := strip("a", 0, 2, -600, 0), strip("b", 0, 1, -700, 0)
	sameOrders(t, s, []api.Cut{a, b}, []int{0, 1}, []int{0, 1}, 33000)
	sameOrders(t, s, []api.Cut{b, a}, []int{1, 0}, []int{1, 0}, 33000)
	noOrders(t, s, []api.Cut{b}, []api.Blocked{rules(0, api.ErrSlope)})
}

func TestP75Orders(t *testing.T) {
	s := wide(4, 1)
	dear := named("d")
	dear.Hour, dear.Outputs = 60000, []api.Output{output("sand", 100, 500)}
	s.Dredgers = append(s.Dredgers, dear)
	// the cutter: 11000 for a cell by 100; the dear one: 110000
	for k, x := range []struct {
		l               []api.Cut
		first, cheapest []int
		cost            int
	}{
		{nil, nil, nil, 0},
		{[]api.Cut{strip("a", 0, 1, -600, 0)}, []int{0}, []int{0}, 11000},
		// their times do not matter
		{[]api.Cut{strip("a", 0, 1, -600, 60), strip("b", 3, 1, -600, 0)}, []int{0, 1}, []int{0, 1}, 22000},
		{[]api.Cut{strip("a", 0, 2, -600, 5), strip("b", 0, 2, -600, 5)}, []int{0, 1}, []int{0, 1}, 22000},
		// the first one of several that cost the same
		{[]api.Cut{strip("a", 0, 1, -600, 0), strip("b", 1, 1, -600, 0), strip("c", 2, 1, -600, 0)}, []int{0, 1, 2}, []int{0, 1, 2}, 33000},
		{[]api.Cut{strip("a", 0, 1, -700, 0), strip("b", 3, 1, -550, 0), strip("c", 0, 2, -600, 0)}, []int{1, 2, 0}, []int{1, 2, 0}, 38500},
		{[]api.Cut{strip("a", 3, 1, -550, 0), strip("b", 0, 1, -700, 0), strip("c", 0, 2, -600, 0)}, []int{0, 2, 1}, []int{0, 2, 1}, 38500},
		// first the cheap one, then nothing is left for the dear one
		{[]api.Cut{by(strip("a", 0, 1, -600, 0), "d"), strip("b", 0, 1, -600, 0)}, []int{0, 1}, []int{1, 0}, 11000},
		{[]api.Cut{strip("a", 0, 1, -600, 0), by(strip("b", 0, 1, -600, 0), "d")}, []int{0, 1}, []int{0, 1}, 11000},
		// the dear one goes deeper: it comes last
		{[]api.Cut{by(strip("a", 0, 1, -600, 0), "d"), strip("b", 0, 1, -550, 0)}, []int{0, 1}, []int{1, 0}, 5500 + 55000},
		// b stands too steep before a, but c may come first
		{[]api.Cut{by(strip("a", 0, 2, -600, 0), "d"), strip("b", 0, 1, -700, 0), strip("c", 1, 1, -550, 0)}, []int{0, 1, 2}, []int{2, 0, 1}, 5500 + 165000 + 11000},
		{[]api.Cut{strip("a", 2, 1, -550, 0), by(strip("b", 2, 2, -550, 0), "d"), strip("c", 3, 1, -550, 0)}, []int{0, 1, 2}, []int{0, 2, 1}, 11000},
	} {
		sameOrders(t, s, x.l, x.first, x.cheapest, x.cost, k, x)
	}
}

func TestP75Proofs(t *testing.T) {
	s := wide(4, 1)
	s.Zones = []api.Region{zone("z", 3001, 0, 3500, 0, 3500, 500)}
	good, steep := strip("a", 0, 1, -600, 0), strip("b", 0, 1, -651, 0)
	zoned, deep, form := strip("c", 2, 2, -600, 0), strip("d", 0, 1, -701, 0), strip("e", 0, 3, -500, 0)
	late := strip("f", 1, 1, -510, 100000-1)
	const ok, slope = api.OK, api.ErrSlope
	for k, x := range []struct {
		l    []api.Cut
		want []api.Blocked
	}{
		{[]api.Cut{steep}, []api.Blocked{rules(0, slope)}},
		{[]api.Cut{zoned, deep, form, late}, []api.Blocked{rules(0, api.ErrZone, api.ErrCapacity, api.ErrForm, api.ErrNone)}},
		{[]api.Cut{good, steep}, []api.Blocked{rules(0, ok, slope), rules(1, ok, slope)}},
		{[]api.Cut{steep, good}, []api.Blocked{rules(0, slope, ok), rules(2, slope, ok)}},
		// behind the good one the deep one has only 101 to take
		{[]api.Cut{good, deep}, []api.Blocked{rules(0, ok, api.ErrCapacity), rules(1, ok, slope)}},
		{[]api.Cut{good, zoned, strip("g", 1, 1, -550, 0)}, []api.Blocked{
			rules(0, ok, api.ErrZone, ok), rules(1, ok, api.ErrZone, ok), rules(4, ok, api.ErrZone, ok), rules(5, ok, api.ErrZone, ok),
		}},
		// the steep one stands behind the one beside it
		{[]api.Cut{steep, strip("g", 1, 1, -551, 0), zoned}, []api.Blocked{
			rules(0, slope, ok, api.ErrZone), rules(2, ok, ok, api.ErrZone), rules(3, ok, ok, api.ErrZone),
		}},
	} {
		noOrders(t, s, x.l, x.want, k, x)
	}
}

func TestP75CheckBlocked(t *testing.T) {
	s := wide(4, 1)
	good, steep, other := strip("a", 0, 1, -600, 0), strip("b", 0, 1, -701, 0), strip("c", 3, 1, -600, 0)
	const ok, deep, slope = api.OK, api.ErrCapacity, api.ErrSlope
	l := []api.Cut{good, steep, other}
	right := []api.Blocked{rules(0, ok, deep, ok), rules(1, ok, slope, ok), rules(4, ok, deep, ok), rules(5, ok, slope, ok)}
	with := func(change func(b []api.Blocked) []api.Blocked) []api.Blocked {
		var b []api.Blocked
		for _, x := range right {
			b = append(b, rules(x.Set, slices.Clone(x.Rules)...))
		}
		return change(b)
	}
	for k, x := range []struct {
		want   api.Errno
		change func(b []api.Blocked) []api.Blocked
	}{
		{api.OK, func(b []api.Blocked) []api.Blocked { return b }},
		// behind 2, which cannot be reached, all cuts are accepted: it leads to the set of all cuts
		{api.ErrProof, func(b []api.Blocked) []api.Blocked {
			return slices.Insert(b, 2, rules(2, ok, ok, ok), rules(3, ok, ok, ok))
		}},
		{api.ErrProof, func(b []api.Blocked) []api.Blocked { return nil }},
		{api.ErrProof, func(b []api.Blocked) []api.Blocked { return b[1:] }},
		{api.ErrProof, func(b []api.Blocked) []api.Blocked { return b[:3] }},
		{api.ErrProof, func(b []api.Blocked) []api.Blocked { return b[:1] }},
		{api.ErrProof, func(b []api.Blocked) []api.Blocked { return slices.Delete(b, 1, 2) }},
		{api.ErrProof, func(b []api.Blocked) []api.Blocked { return slices.Insert(b, 1, b[0]) }},
		{api.ErrProof, func(b []api.Blocked) []api.Blocked { return append(b, b[3]) }},
		{api.ErrProof, func(b []api.Blocked) []api.Blocked { b[1], b[2] = b[2], b[1]; return b }},
		{api.ErrProof, func(b []api.Blocked) []api.Blocked { return append(b, rules(7, ok, ok, ok)) }},
		{api.ErrProof, func(b []api.Blocked) []api.Blocked { return append(b, rules(8, ok, deep, ok)) }},
		{api.ErrProof, func(b []api.Blocked) []api.Blocked { return append(b, rules(math.MaxInt, ok, ok, ok)) }},
		{api.ErrProof, func(b []api.Blocked) []api.Blocked { return slices.Insert(b, 0, rules(-1, ok, ok, ok)) }},
		{api.ErrProof, func(b []api.Blocked) []api.Blocked { b[0].Set = -1; return b }},
		{api.ErrProof, func(b []api.Blocked) []api.Blocked { b[0].Set = math.MinInt; return b }},
		{api.ErrProof, func(b []api.Blocked) []api.Blocked { b[0].Rules = b[0].Rules[:2]; return b }},
		{api.ErrProof, func(b []api.Blocked) []api.Blocked { b[3].Rules = append(b[3].Rules, ok); return b }},
		{api.ErrProof, func(b []api.Blocked) []api.Blocked { b[3].Rules = nil; return b }},
		{api.ErrProof, func(b []api.Blocked) []api.Blocked { b[0].Rules[1] = slope; return b }},
		{api.ErrProof, func(b []api.Blocked) []api.Blocked { b[0].Rules[0] = slope; return b }},
		{api.ErrProof, func(b []api.Blocked) []api.Blocked { b[0].Rules[1] = ok; return b }},
		{api.ErrProof, func(b []api.Blocked) []api.Blocked { b[1].Rules[0] = slope; return b }}, // a cut of the set
		{api.ErrProof, func(b []api.Blocked) []api.Blocked { b[3].Rules[1] = deep; return b }},
		{api.ErrProof, func(b []api.Blocked) []api.Blocked { b[3].Rules[2] = -1; return b }},
	} {
		same(t, cut.CheckBlocked(s, l, with(x.change)), x.want, "CheckBlocked", k)
	}
	noOrders(t, s, l, right)
}

// A set that cannot be reached may stand in a proof, if it is right there.
func TestP75CheckBlockedMore(t *testing.T) {
	s := wide(4, 1)
	l := []api.Cut{strip("a", 0, 1, -601, 0), strip("b", 3, 1, -601, 0)}
	const ok, slope = api.OK, api.ErrSlope
	for _, x := range []struct {
		want api.Errno
		b    []api.Blocked
	}{
		{api.OK, []api.Blocked{rules(0, slope, slope)}},
		{api.OK, []api.Blocked{rules(0, slope, slope), rules(1, ok, slope)}},
		{api.OK, []api.Blocked{rules(0, slope, slope), rules(2, slope, ok)}},
		{api.OK, []api.Blocked{rules(0, slope, slope), rules(1, ok, slope), rules(2, slope, ok)}},
		{api.ErrProof, []api.Blocked{rules(0, slope, slope), rules(1, slope, slope)}},
		{api.ErrProof, []api.Blocked{rules(0, slope, slope), rules(1, ok, ok)}},
		{api.ErrProof, []api.Blocked{rules(0, slope, slope), rules(2, slope, ok), rules(1, ok, slope)}},
		{api.ErrProof, []api.Blocked{rules(0, slope, slope), rules(1, ok, slope), rules(2, slope, ok), rules(3, ok, ok)}},
		{api.ErrProof, []api.Blocked{rules(1, ok, slope)}},
	} {
		same(t, cut.CheckBlocked(s, l, x.b), x.want, "CheckBlocked", x)
	}
	// with no cuts no list is a proof
	for _, b := range [][]api.Blocked{nil, {{}}, {rules(0, ok)}, {rules(1)}, {rules(-1)}} {
		same(t, cut.CheckBlocked(s, nil, b), api.ErrProof, "CheckBlocked without cuts", b)
	}
	// where there is an order no list is one
	good := []api.Cut{strip("a", 0, 1, -600, 0), strip("b", 3, 1, -600, 0)}
	for _, b := range [][]api.Blocked{
		nil, {rules(0, ok, ok)}, {rules(0, ok, ok), rules(1, ok, ok), rules(2, ok, ok)},
		{rules(0, ok, ok), rules(1, ok, ok), rules(2, ok, ok), rules(3, ok, ok)}, {rules(0, slope, slope)},
	} {
		same(t, cut.CheckBlocked(s, good, b), api.ErrProof, "CheckBlocked where there is an order", b)
	}
}

func TestP75Counts(t *testing.T) {
	s := wide(4, 1)
	l := cutNames(9)
	allRefused(t, orderCalls(s, l), api.ErrLarge)
	sameOrders(t, s, l[:8], []int{0, 1, 2, 3, 4, 5, 6, 7}, []int{0, 1, 2, 3, 4, 5, 6, 7}, 0)
	l[8].Name = "?"
	allRefused(t, orderCalls(s, l), api.ErrName)
}

// One of eight cuts after the other, each one beside the one before, in any order of the list.
func TestP75Stairs(t *testing.T) {
	s := wide(9, 1)
	s.Dredgers[0].Across, s.Dredgers[0].Bite, s.Dredgers[0].Depth = 9, 100, 1300
	place := []int{5, 2, 7, 0, 4, 6, 1, 3} // the number of each step, from above
	var l []api.Cut
	for _, k := range place {
		l = append(l, strip(letter(k), 0, 8-k, -600-100*k, 0))
	}
	want := make([]int, 8)
	for i, k := range place {
		want[k] = i
	}
	sameOrders(t, s, l, want, want, 36*11000)
	l[3].Level = -499 // without the first step there is one of 200
	full := []api.Errno{api.ErrCapacity, api.ErrCapacity, api.ErrCapacity, api.OK, api.ErrCapacity, api.ErrCapacity, api.ErrCapacity, api.ErrCapacity}
	noOrders(t, s, l, []api.Blocked{rules(0, full...), rules(8, full...)})
}

// walk goes through all orders of the cuts that are not yet in the order, the first ones first.
func walk(s api.Site, l []api.Cut, order []int, cost int, visit func(order []int, cost int)) {
	visit(order, cost)
	m := s.Bed
	for _, k := range order {
		m = bedAfter(m, l[k])
	}
	for k, c := range l {
		if slices.Contains(order, k) {
			continue
		}
		if _, is := refusal(s, m, c); !is {
			_, price, _ := effort(s, m, c)
			walk(s, l, append(slices.Clone(order), k), cost+price, visit)
		}
	}
}

// proofOf is the proof with these sets.
func proofOf(s api.Site, l []api.Cut, sets map[int]bool) []api.Blocked {
	var out []api.Blocked
	for set := range 1 << len(l) {
		if !sets[set] {
			continue
		}
		m, b := s.Bed, rules(set)
		for k, c := range l {
			if set&(1<<k) != 0 {
				m = bedAfter(m, c)
			}
		}
		for k, c := range l {
			v, _ := refusal(s, m, c)
			if set&(1<<k) != 0 {
				v.Rule = api.OK
			}
			b.Rules = append(b.Rules, v.Rule)
		}
		out = append(out, b)
	}
	return out
}

func TestP75Computed(t *testing.T) {
	s := &numbers{75}
	orders, proofs, dearer := 0, 0, 0
	for range 1500 {
		site := s.site(5, s.next(2))
		l := s.cuts(site, 1+s.next(4))
		var first, cheapest []int
		least, dearest, found, sets := 0, 0, false, map[int]bool{}
		walk(site, l, nil, 0, func(order []int, cost int) {
			set := 0
			for _, k := range order {
				set += 1 << k
			}
			sets[set] = true
			if len(order) < len(l) {
				return
			}
			if !found {
				first, cheapest, least, found = order, order, cost, true
			}
			if cost < least {
				cheapest, least = order, cost
			}
			dearest = max(dearest, cost)
		})
		if !found {
			want := proofOf(site, l, sets)
			noOrders(t, site, l, want, site, l)
			if len(want) > 1 {
				proofs++
			}
			continue
		}
		sameOrders(t, site, l, first, cheapest, least, site, l)
		if len(l) > 1 {
			orders++
		}
		if !slices.Equal(first, cheapest) {
			dearer++
		}
	}
	same(t, orders > 100 && proofs > 100 && dearer > 20, true, "all kinds of plans are looked at", orders, proofs, dearer)
}
