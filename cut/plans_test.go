package cut_test

import (
	"math"
	"testing"

	"draghead/api"
	"draghead/cut"
)

// sameFirst fails the test unless this is the first violation; OK: there is none.
func sameFirst(t *testing.T, s api.Site, l []api.Cut, want api.Violation, about ...any) {
	t.Helper()
	v, is, e := cut.First(s, l)
	same(t, e, api.OK, "First: the error", about...)
	same(t, is, want.Rule != api.OK, "First: whether there is one", about...)
	same(t, v, want, "First", about...)
	same(t, cut.CheckPlan(s, l), want.Rule, "CheckPlan", about...)
	same(t, cut.CheckViolation(s, l, v), unless(is, api.ErrProof), "CheckViolation", about...)
	for _, other := range []api.Violation{
		violation(want.At+1, want.Cell, want.Rule), violation(want.At, want.Cell+1, want.Rule), violation(want.At, want.Cell, want.Rule+1),
		{}, violation(-1, 0, 0), violation(want.At, want.Cell, -want.Rule-1), violation(math.MinInt, math.MaxInt, api.ErrSlope),
	} {
		if other != want || !is {
			same(t, cut.CheckViolation(s, l, other), api.ErrProof, "CheckViolation of another one", other, about)
		}
	}
}

func TestP74After(t *testing.T) {
	s := example(-500, u, -500, highest)
	l := []api.Cut{strip("a", 0, 4, -600, 7), strip("b", 0, 1, -highest, 5), strip("c", 0, 2, -300, 0), strip("d", 2, 2, -601, 0)}
	for n, want := range [][]int{
		{-500, u, -500, highest}, {-600, u, -600, -600}, {-highest, u, -600, -600}, {-highest, u, -600, -600}, {-highest, u, -601, -601},
	} {
		got, e := cut.After(s, l, n)
		same(t, e, api.OK, "After", n)
		sameGrid(t, got, with(s.Bed, want...), "After", n)
	}
	for _, n := range []int{-1, 5, math.MinInt, math.MaxInt} {
		same(t, of(cut.After(s, l, n)), refused(api.ErrRange), "After", n)
	}
	got, e := cut.After(s, nil, 0)
	same(t, e, api.OK, "After")
	sameGrid(t, got, s.Bed, "After")
	same(t, of(cut.After(s, nil, 1)), refused(api.ErrRange), "After")
}

// In the examples a cut of two cells by 100 takes 120 minutes, of one cell 60.
func TestP74First(t *testing.T) {
	s := wide(4, 2)
	s.Dredgers = append(s.Dredgers, named("d"))
	a := strip("a", 0, 2, -600, 100) // up to 220
	rest := area("r", 3, 1, 1, 1, -600, 9000)
	bad := strip("bad", 0, 4, -600, 0)
	for k, x := range []struct {
		want api.Violation
		l    []api.Cut
	}{
		{api.Violation{}, nil},
		{api.Violation{}, []api.Cut{a}},
		{violation(0, 0, api.ErrForm), []api.Cut{bad}},
		{violation(0, 0, api.ErrForm), []api.Cut{bad, bad2()}},
		{violation(1, 0, api.ErrOrder), []api.Cut{a, bad}}, // before the other rules
		// one after the other
		{api.Violation{}, []api.Cut{a, strip("b", 2, 2, -600, 220)}},
		{violation(1, 2, api.ErrTraffic), []api.Cut{a, strip("b", 2, 2, -600, 219)}},
		{violation(1, 2, api.ErrTraffic), []api.Cut{a, strip("b", 2, 2, -600, 100)}},
		{violation(1, 2, api.ErrOrder), []api.Cut{a, strip("b", 2, 2, -600, 99)}}, // before ErrTraffic
		{violation(1, 2, api.ErrOrder), []api.Cut{a, strip("b", 2, 2, -600, 0)}},
		{violation(2, 0, api.ErrOrder), []api.Cut{a, strip("b", 2, 2, -600, 400), strip("c", 0, 2, -650, 399)}}, // of the cut before, not of any one
		// another dredger beside
		{api.Violation{}, []api.Cut{a, by(strip("b", 2, 2, -600, 100), "d")}},
		{api.Violation{}, []api.Cut{a, by(area("b", 0, 1, 2, 1, -600, 100), "d")}},
		{violation(1, 1, api.ErrTraffic), []api.Cut{a, by(strip("b", 1, 2, -600, 219), "d")}},
		{violation(1, 0, api.ErrTraffic), []api.Cut{a, by(strip("b", 0, 1, -650, 219), "d")}},
		{violation(1, 0, api.ErrTraffic), []api.Cut{a, by(area("b", 0, 0, 1, 2, -601, 219), "d")}}, // before ErrForm
		{api.Violation{}, []api.Cut{a, by(strip("b", 1, 2, -600, 220), "d")}},
		{violation(1, 1, api.ErrForm), []api.Cut{a, by(strip("b", 1, 3, -600, 220), "d")}},
		// what lowers nothing takes no time
		{api.Violation{}, []api.Cut{a, strip("b", 0, 2, -600, 110)}},
		{api.Violation{}, []api.Cut{strip("b", 0, 2, -500, 100), a}},
		{api.Violation{}, []api.Cut{a, strip("b", 0, 2, -600, 110), strip("c", 2, 2, -600, 220)}},
		{violation(2, 2, api.ErrTraffic), []api.Cut{a, strip("b", 0, 2, -600, 110), strip("c", 2, 2, -600, 219)}},
		{violation(1, 1, api.ErrForm), []api.Cut{a, strip("b", 1, 3, -500, 110)}}, // no ErrTraffic
		// of all earlier cuts, not of the last one alone
		{violation(2, 2, api.ErrTraffic), []api.Cut{a, by(area("b", 0, 1, 1, 1, -600, 100), "d"), strip("c", 2, 1, -600, 200)}},
		{violation(2, 4, api.ErrTraffic), []api.Cut{a, by(area("b", 0, 1, 1, 1, -600, 200), "d"), area("c", 0, 1, 2, 1, -650, 230)}},
		// the water when it is made: none behind 100000
		{violation(1, 7, api.ErrNone), []api.Cut{a, area("r", 3, 1, 1, 1, -600, 99942)}},
		{api.Violation{}, []api.Cut{a, area("r", 3, 1, 1, 1, -600, 99941)}},
		{api.Violation{}, []api.Cut{a, rest}},
		{violation(2, 7, api.ErrOrder), []api.Cut{a, area("b", 2, 1, 2, 1, -550, 10000), rest}},
		{violation(1, 7, api.ErrLarge), []api.Cut{a, area("r", 3, 1, 1, 1, -600, latest-58)}},
	} {
		sameFirst(t, s, x.l, x.want, k, x)
	}
}

// Each cut is made on the bed behind those before it.
func TestP74FirstBeds(t *testing.T) {
	s := wide(4, 1)
	a, bad := strip("a", 0, 2, -600, 100), strip("bad", 0, 4, -600, 0)
	for k, x := range []struct {
		want api.Violation
		l    []api.Cut
	}{
		{api.Violation{}, []api.Cut{a, strip("b", 2, 2, -600, 400), strip("c", 0, 2, -650, 600)}},
		{violation(1, 1, api.ErrSlope), []api.Cut{a, strip("b", 1, 1, -701, 300)}},
		{api.Violation{}, []api.Cut{a, strip("b", 0, 1, -700, 300)}},
		{violation(0, 0, api.ErrSlope), []api.Cut{strip("b", 0, 1, -700, 300), a}},
		{violation(2, 0, api.ErrCapacity), []api.Cut{a, strip("b", 0, 1, -650, 300), strip("c", 0, 1, -851, 400), bad}},
		{violation(2, 0, api.ErrSlope), []api.Cut{a, strip("b", 0, 1, -650, 300), strip("c", 0, 1, -850, 400), bad}},
	} {
		sameFirst(t, s, x.l, x.want, k, x)
	}
}

// bad2 is refused by another rule.
func bad2() api.Cut { return strip("bad2", 0, 2, -900, 0) }

// A cut that takes a soil without output has no minutes: its own rules are the first ones that it breaks.
func TestP74NoOutput(t *testing.T) {
	s := wide(4, 1)
	s.Dredgers = append(s.Dredgers, named("d"))
	s.Dredgers[1].Outputs = nil
	a, b := strip("a", 0, 2, -600, 0), by(strip("b", 0, 2, -650, 10), "d")
	sameFirst(t, s, []api.Cut{a, b}, violation(1, 0, api.ErrMissing))
	sameFirst(t, s, []api.Cut{b, a}, violation(0, 0, api.ErrMissing))
	b.Level = -600
	sameFirst(t, s, []api.Cut{a, b}, api.Violation{})
	b.Cols = 3
	sameFirst(t, s, []api.Cut{a, b}, violation(1, 0, api.ErrForm))
}

// Cuts with many minutes meet, too: ErrTraffic comes before ErrLarge.
func TestP74LongSpells(t *testing.T) {
	s := wide(4, 1)
	s.Dredgers[0].Outputs[0].Rate = 1
	s.Bed.Levels = []int{-500, -500, -500, -500}
	a, b := strip("a", 0, 1, -550, 0), strip("b", 2, 2, -600, 2999)
	sameFirst(t, s, []api.Cut{a, b}, violation(1, 2, api.ErrTraffic)) // 12000 minutes
	b.Start = 3000
	sameFirst(t, s, []api.Cut{a, b}, violation(1, 2, api.ErrLarge))
}

func TestP74Times(t *testing.T) {
	s := wide(4, 1)
	s.Dredgers = append(s.Dredgers, named("d"))
	s.Dredgers[1].Hour = 0
	// 120 minutes, 22000; 30 minutes of one cell by 50, 2500; nothing; 30 minutes by 50, 2500 + 3000
	l := []api.Cut{strip("a", 0, 2, -600, 5), by(strip("b", 2, 1, -550, 6), "d"), strip("c", 0, 2, -600, 7), strip("d", 1, 2, -600, 125)}
	want := []api.Spell{{From: 5, To: 125}, {From: 6, To: 36}, {From: 7, To: 7}, {From: 125, To: 155}}
	for n := range len(l) + 1 {
		got, e := cut.Times(s, l[:n])
		same(t, e, api.OK, "Times", n)
		sameList(t, got, want[:n], "Times", n)
		cost, e := cut.Cost(s, l[:n])
		same(t, e, api.OK, "Cost", n)
		same(t, cost, []int{0, 22000, 24500, 24500, 30000}[n], "Cost", n)
	}
	l[3].Start = 124
	same(t, of(cut.Times(s, l)), refused(api.ErrTraffic), "Times")
	same(t, of(cut.Cost(s, l)), refused(api.ErrTraffic), "Cost")
	l[3].Start = 6
	same(t, of(cut.Times(s, l)), refused(api.ErrOrder), "Times")
	same(t, of(cut.Cost(s, l)), refused(api.ErrOrder), "Cost")
	l[0].Level = -601
	same(t, of(cut.Times(s, l)), refused(api.ErrSlope), "Times")
	same(t, of(cut.Cost(s, l)), refused(api.ErrSlope), "Cost")
}

// As many cuts as a plan may have.
func TestP74ManyCuts(t *testing.T) {
	s := wide(40, 1)
	var l []api.Cut
	for k := range api.MaxCuts {
		l = append(l, strip("n"+letter(k/8)+letter(k%8), k, 1, -501-k, 30*k))
	}
	sameFirst(t, s, l, api.Violation{})
	times, e := cut.Times(s, l)
	same(t, e, api.OK, "Times")
	sameList(t, times[:2], []api.Spell{{From: 0, To: 1}, {From: 30, To: 32}}, "Times")
	same(t, times[39], api.Spell{From: 1170, To: 1194}, "Times")
	l[39].Start--
	sameFirst(t, s, l, api.Violation{})
	l[39].Start = l[38].Start
	sameFirst(t, s, l, violation(39, 39, api.ErrTraffic))
}

func TestP74Computed(t *testing.T) {
	s := &numbers{74}
	seen, right := map[api.Errno]int{}, 0
	for range 2000 {
		site := s.site(6, s.next(2))
		l := s.cuts(site, 1+s.next(6))
		want, _ := firstOf(site, l)
		sameFirst(t, site, l, want, site, l)
		seen[want.Rule]++
		var times []api.Spell
		cost := 0
		for k, c := range l {
			m := bedAfter(site.Bed, l[:k]...)
			minutes, price, _ := effort(site, m, c)
			times, cost = append(times, api.Spell{From: c.Start, To: c.Start + minutes}), cost+price
			got, e := cut.After(site, l, k)
			same(t, e, api.OK, "After", site, l, k)
			sameGrid(t, got, m, "After", site, l, k)
		}
		if want.Rule != api.OK {
			times, cost = nil, 0
		} else if len(l) > 2 {
			right++
		}
		got, e := cut.Times(site, l)
		same(t, e, want.Rule, "Times", site, l)
		sameList(t, got, times, "Times", site, l)
		n, e := cut.Cost(site, l)
		same(t, e, want.Rule, "Cost", site, l)
		same(t, n, cost, "Cost", site, l)
	}
	same(t, right > 30 && seen[api.ErrOrder] > 30 && seen[api.ErrTraffic] > 100 && seen[api.ErrSlope] > 30, true, "each rule is looked at", seen, right)
}
