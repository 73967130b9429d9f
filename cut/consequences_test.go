package cut_test

import (
	"math"
	"slices"
	"testing"

	"draghead/api"
	"draghead/bed"
	"draghead/cut"
	"draghead/soil"
)

// rightPlans calls visit with plans without violations, of more than one cut that lowers something.
func rightPlans(t *testing.T, s *numbers, n int, visit func(site api.Site, l []api.Cut)) {
	t.Helper()
	found := 0
	for range n {
		site := s.site(6, s.next(2))
		l := s.cuts(site, 2+s.next(5))
		for k := range l { // the first violations are left out
			v, is, _ := cut.First(site, l[:min(k+1, len(l))])
			if is {
				l = slices.Delete(slices.Clone(l), v.At, v.At+1)
			}
		}
		m, e := cut.After(site, l, len(l))
		same(t, e, api.OK, "After", site, l)
		if cut.CheckPlan(site, l) == api.OK && len(l) > 1 && !slices.Equal(m.Levels, site.Bed.Levels) {
			visit(site, l)
			found++
		}
	}
	same(t, found > n/20, true, "there are plans", found)
}

func TestP77NothingIsTouched(t *testing.T) {
	rightPlans(t, &numbers{771}, 2000, func(s api.Site, l []api.Cut) {
		for n, c := range l {
			before, _ := cut.After(s, l, n)
			after, _ := cut.After(s, l, n+1)
			for _, i := range cellsOf(s.Bed, c) {
				same(t, inZone(s, i), false, "a cell of the footprint is in a zone", s, l, n, i)
			}
			isLower := func(i int) bool { return after.Levels[i] < before.Levels[i] }
			for _, q := range s.Quays {
				under, _ := soil.Undermined(q, after)
				same(t, slices.ContainsFunc(under, isLower), false, "a quay is undermined", s, l, n)
			}
			steeps, _ := soil.Steeps(s.Ground, after)
			same(t, slices.ContainsFunc(steeps, func(p api.Steep) bool { return isLower(p.High) || isLower(p.Low) }), false, "a slope is too steep", s, l, n)
		}
	})
}

func TestP77WhatIsTakenIsTheChange(t *testing.T) {
	rightPlans(t, &numbers{772}, 2000, func(s api.Site, l []api.Cut) {
		sum := 0
		for n, c := range l {
			before, _ := cut.After(s, l, n)
			shares, e := cut.Taken(s, before, c)
			same(t, e, api.OK, "Taken", s, l, n)
			for _, x := range shares {
				sum += x.Volume
			}
		}
		last, _ := cut.After(s, l, len(l))
		change, _ := bed.Compare(s.Bed, last)
		same(t, sum, change.Cut, "what all cuts take", s, l)
		same(t, change.Fill, 0, "what is filled", s, l)
	})
}

func TestP77NoOrderOfTheBeds(t *testing.T) {
	s := &numbers{773}
	for range 500 {
		site := s.site(6, 2)
		l := s.cuts(site, 6)
		want, _ := cut.After(site, l, 6)
		for range 3 {
			i, k := s.next(6), s.next(6)
			l[i], l[k] = l[k], l[i]
			got, e := cut.After(site, l, 6)
			same(t, e, api.OK, "After", site, l)
			sameGrid(t, got, want, "After in another order", site, l)
		}
	}
}

func TestP77OrderOrProof(t *testing.T) {
	s := &numbers{774}
	cheaper := 0
	for range 1000 {
		site := s.site(5, s.next(2))
		l := s.cuts(site, 2+s.next(3))
		order, proof, e := cut.Ordered(site, l)
		cheapest, least, f := cut.Cheapest(site, l)
		same(t, f, e, "the errors", site, l)
		if e != api.OK {
			same(t, cut.CheckBlocked(site, l, proof), api.OK, "CheckBlocked", site, l)
			continue
		}
		for _, b := range everyProof(site, l) {
			same(t, cut.CheckBlocked(site, l, b), api.ErrProof, "a proof beside an order", site, l, b)
		}
		same(t, sumOf(t, site, l, cheapest), least, "what the cheapest order costs", site, l)
		n := sumOf(t, site, l, order)
		same(t, least <= n, true, "the cheapest one costs at most as much", site, l)
		if least < n {
			cheaper++
		}
	}
	same(t, cheaper > 10, true, "there are orders that cost more", cheaper)
}

// everyProof is what comes near to proofs: all sets, those without the set of all cuts, the first one, and none.
func everyProof(s api.Site, l []api.Cut) [][]api.Blocked {
	sets := map[int]bool{}
	for set := range 1 << len(l) {
		sets[set] = true
	}
	all := proofOf(s, l, sets)
	return [][]api.Blocked{all, all[:len(all)-1], all[:1], nil}
}

// sumOf is what an order costs; the test fails if a cut is refused.
func sumOf(t *testing.T, s api.Site, l []api.Cut, order []int) int {
	t.Helper()
	m, sum := s.Bed, 0
	for _, k := range order {
		_, is, e := cut.Refusal(s, m, l[k])
		same(t, e == api.OK && !is, true, "a cut of an order", s, l, order, k)
		price, _ := cut.Price(s, m, l[k])
		sum += price
		m, _ = cut.Lowered(s, m, l[k])
	}
	sorted := slices.Sorted(slices.Values(order))
	for k := range l {
		same(t, sorted[k], k, "the cuts of an order", s, l, order)
	}
	return sum
}

// wipe overwrites a list as far as its memory goes.
func wipe[T any](l []T, _ api.Errno) { clear(l[:cap(l)]) }

func wipeGrid(m api.Grid, e api.Errno) { wipe(m.Levels, e) }

func wipeOrder(l []int, b []api.Blocked, e api.Errno) {
	wipe(l, e)
	for _, x := range b {
		wipe(x.Rules, e)
	}
	wipe(b, e)
}

// roomy is a list with other elements behind its end.
func roomy[T any](l []T, behind T) []T {
	out := append(slices.Clone(l), behind, behind)
	return out[:len(l)]
}

// roomySite is a site all of whose lists are roomy.
func roomySite() api.Site {
	s := example(-500, -500, -500, u)
	s.Bed.Levels = roomy(s.Bed.Levels, 77)
	s.Ground.Soils = roomy(s.Ground.Soils, kind("z", 7))
	s.Ground.Borings[0].Layers = roomy(s.Ground.Borings[0].Layers, layer(-700, "z"))
	s.Ground.Borings = roomy(s.Ground.Borings, boring("z", 7, 7))
	s.Zones = roomy([]api.Region{zone("z", 3500, 0, 3600, 0, 3600, 50)}, zone("y"))
	s.Zones[0].Corners = roomy(s.Zones[0].Corners, at(7, 7))
	s.Quays = roomy([]api.Quay{quay("q", 0, -900, 3000, -900, -590, 1000)}, quay("z", 7, 7, 7, 7, 7, 7))
	s.Gauges[0].Marks = roomy(s.Gauges[0].Marks, mark(7, 7))
	s.Gauges = roomy(s.Gauges, gauge("z", 7, 7))
	s.Dredgers[0].Outputs = roomy(s.Dredgers[0].Outputs, output("z", 7, 7))
	s.Dredgers = roomy(s.Dredgers, named("z"))
	return s
}

// R3: results are overwritten here, and the arguments are what they were before.
func TestP77Memory(t *testing.T) {
	s := roomySite()
	l := roomy([]api.Cut{strip("a", 0, 2, -600, 0), strip("b", 0, 1, -650, 200)}, strip("z", 7, 7, 7, 7))
	steep := roomy([]api.Cut{strip("a", 0, 2, -600, 0), strip("b", 1, 1, -750, 200)}, strip("z", 7, 7, 7, 7))
	proof := roomy([]api.Blocked{rules(0, roomy([]api.Errno{api.OK, api.ErrCapacity}, 7)...), rules(1, roomy([]api.Errno{api.OK, api.ErrSlope}, 7)...)}, rules(9))
	for range 2 { // what an earlier call gave back has no part in a later one
		for _, l := range [][]api.Cut{l, steep} {
			for n := range 3 {
				wipeGrid(cut.After(s, l, n))
			}
			for _, c := range l {
				wipe(cut.Footprint(s, c))
				wipeGrid(cut.Lowered(s, s.Bed, c))
				wipe(cut.Taken(s, s.Bed, c))
				cut.Minutes(s, s.Bed, c)
				cut.Price(s, s.Bed, c)
				cut.Refusal(s, s.Bed, c)
			}
			wipe(cut.Times(s, l))
			wipeOrder(cut.Ordered(s, l))
			order, _, e := cut.Cheapest(s, l)
			wipe(order, e)
			v, _, _ := cut.First(s, l)
			cut.CheckViolation(s, l, v)
			cut.Cost(s, l)
		}
		same(t, cut.CheckBlocked(s, steep, proof), api.ErrProof, "CheckBlocked") // 250 and 150
		wipe(cut.Safe(s, "z"))
		cut.Greatest(s, 0)
		cut.CheckCuts(s, l)
	}
	want := roomySite()
	sameList(t, s.Bed.Levels[:6], want.Bed.Levels[:6], "the levels")
	sameList(t, s.Ground.Soils[:3], want.Ground.Soils[:3], "the soils")
	sameList(t, s.Ground.Borings[0].Layers[:3], want.Ground.Borings[0].Layers[:3], "the layers")
	same(t, s.Ground.Borings[:2][1].Name, "z", "the borings")
	sameList(t, s.Zones[0].Corners[:5], want.Zones[0].Corners[:5], "the corners")
	same(t, s.Zones[0].Name+s.Zones[:2][1].Name, "zy", "the zones")
	sameList(t, s.Quays[:3], want.Quays[:3], "the quays")
	sameList(t, s.Gauges[0].Marks[:4], want.Gauges[0].Marks[:4], "the marks")
	same(t, s.Gauges[:2][1].Name, "z", "the gauges")
	sameList(t, s.Dredgers[0].Outputs[:3], want.Dredgers[0].Outputs[:3], "the outputs")
	same(t, s.Dredgers[0].Name+s.Dredgers[:2][1].Name, "cz", "the dredgers")
	sameList(t, l[:4], []api.Cut{strip("a", 0, 2, -600, 0), strip("b", 0, 1, -650, 200), strip("z", 7, 7, 7, 7), strip("z", 7, 7, 7, 7)}, "the cuts")
	sameList(t, proof[0].Rules[:4], []api.Errno{api.OK, api.ErrCapacity, 7, 7}, "the rules")
	same(t, proof[1].Set*10+proof[:3][2].Set, 19, "the proof")
}

// R5: a nil list and an empty one.
func TestP77Empty(t *testing.T) {
	bare, empty := level(), level()
	bare.Gauges = nil
	empty.Zones, empty.Quays, empty.Gauges = []api.Region{}, []api.Quay{}, []api.Gauge{}
	still, quiet := level(), level()
	still.Gauges[0].Marks, still.Dredgers[0].Outputs = nil, nil
	quiet.Gauges[0].Marks, quiet.Dredgers[0].Outputs = []api.Mark{}, []api.Output{}
	none, some := level(), level()
	none.Dredgers, some.Dredgers = nil, []api.Dredger{}
	c := strip("a", 0, 1, -550, 0)
	for k, pair := range [][2]map[string]answer{
		{siteCalls(bare), siteCalls(empty)}, {siteCalls(still), siteCalls(quiet)}, {siteCalls(none), siteCalls(some)},
		{bedCalls(bare, bare.Bed, c), bedCalls(empty, empty.Bed, c)},
		{bedCalls(still, still.Bed, c), bedCalls(quiet, quiet.Bed, c)},
		{bedCalls(bare, frame(0, 0, 1000, 3, 1), c), bedCalls(bare, with(frame(0, 0, 1000, 3, 1), []int{}...), c)},
		{listCalls(bare, nil), listCalls(bare, []api.Cut{})}, {listCalls(none, nil), listCalls(some, []api.Cut{})},
	} {
		for name, got := range pair[0] {
			same(t, got, pair[1][name], name, k)
		}
	}
	for _, b := range [][]api.Blocked{nil, {}, {rules(0)}, {rules(0, []api.Errno{}...)}} {
		same(t, cut.CheckBlocked(bare, nil, b), api.ErrProof, "CheckBlocked", b)
	}
}

// R2 and R4: the ends of the range of int everywhere, and results that are the same again.
func TestP77AnyArguments(t *testing.T) {
	ends := []int{math.MinInt, math.MinInt + 1, -1, 0, 1, 100, math.MaxInt - 1, math.MaxInt}
	s := level()
	for _, a := range ends {
		for _, b := range ends {
			for _, c := range ends {
				anyCuts(s, a, b, c)
				anySites(s, a, b, c)
			}
		}
	}
	l := []api.Cut{strip("a", 0, 2, -600, 0), strip("b", 0, 1, -750, 200), strip("c", 2, 1, -601, 200)}
	_, first, _ := cut.Ordered(s, l)
	for range 20 {
		_, again, _ := cut.Ordered(s, l)
		sameProof(t, again, first, "Ordered again")
	}
}

func anyCuts(s api.Site, a, b, c int) {
	cuts := []api.Cut{area("a", a, b, c, a, b, c), area("b", 0, 0, a, b, c, a)}
	for _, x := range append(cuts, area("c", a, 0, b, 1, -600, 0), area("d", 0, 0, 1, 1, a, b)) {
		oneCalls(s, x)
		bedCalls(s, s.Bed, x)
		listCalls(s, []api.Cut{x})
	}
	listCalls(s, cuts)
	good := []api.Cut{strip("a", 0, 2, -600, 0)}
	cut.After(s, good, a)
	cut.CheckViolation(s, good, violation(a, b, api.Errno(c)))
	cut.CheckBlocked(s, good, []api.Blocked{rules(a, api.Errno(b)), rules(b, api.Errno(c)), rules(c)})
	cut.CheckBlocked(s, good, []api.Blocked{rules(0, api.Errno(c)), rules(a, api.Errno(b))})
	cut.Greatest(s, a)
}

func anySites(s api.Site, a, b, c int) {
	for _, change := range []func(s *api.Site){
		func(s *api.Site) { s.Bed = flat(frame(a, b, c, 1, 1), 0) },
		func(s *api.Site) { s.Bed = with(frame(0, 0, a, b, c), 0) },
		func(s *api.Site) { s.Bed = row(a, b, c) },
		func(s *api.Site) { s.Zones = []api.Region{zone("z", a, b, b, c, c, a)} },
		func(s *api.Site) { s.Quays = []api.Quay{quay("q", a, b, c, a, b, c)} },
		func(s *api.Site) { s.Gauges = []api.Gauge{gauge("g", a, b, mark(b, c), mark(c, a))} },
		func(s *api.Site) {
			s.Dredgers = []api.Dredger{{Name: "c", Kind: a, Depth: b, Across: c, Along: a, Bite: b, Hour: c}}
		},
		func(s *api.Site) {
			s.Dredgers = []api.Dredger{dredgerWith(func(d *api.Dredger) { d.Outputs = []api.Output{output("sand", a, b)} })}
		},
	} {
		x := s
		change(&x)
		siteCalls(x)
		bedCalls(s, x.Bed, strip("a", 0, 1, -600, 0))
		listCalls(x, []api.Cut{strip("a", 0, 1, -600, 0)})
	}
}
