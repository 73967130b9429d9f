package trip_test

import (
	"math"
	"slices"
	"testing"

	"draghead/api"
	"draghead/trip"
)

// change is something that is changed in a fairway, and the error that it then has.
type change struct {
	want api.Errno
	make func(f *api.Fairway)
}

// addReach, addClosure and addGauge add one more to the fairway.
func addReach(want api.Errno, r api.Reach) change {
	return change{want, func(f *api.Fairway) { f.Reaches = append(f.Reaches, r) }}
}

func addClosure(want api.Errno, reach string, from, to int) change {
	return change{want, func(f *api.Fairway) { f.Taken = append(f.Taken, closure(reach, from, to)) }}
}

func addGauge(want api.Errno, g api.Gauge) change {
	return change{want, func(f *api.Fairway) { f.Gauges = append(f.Gauges, g) }}
}

// full is a fairway with as much of everything as there may be.
func full() api.Fairway {
	var f api.Fairway
	for k := range api.MaxGauges {
		f.Gauges = append(f.Gauges, gauge(letter(k), k, 0))
	}
	for k := range api.MaxReaches {
		f.Reaches = append(f.Reaches, reach(letter(k), 1))
	}
	for range api.MaxTaken {
		f.Taken = append(f.Taken, closure("h", 0, latest))
	}
	return f
}

// reachWith is a reach with the name z with something changed.
func reachWith(change func(r *api.Reach)) api.Reach {
	r := reach("z", 1)
	change(&r)
	return r
}

// fairwayChanges is in the order in which the chapter lists the errors.
func fairwayChanges() []change {
	return []change{
		{api.ErrLarge, func(f *api.Fairway) { f.Gauges = append(f.Gauges, make([]api.Gauge, 7)...) }},
		addGauge(api.ErrName, gauge("?", 0, -1)),
		addGauge(api.ErrExists, gauge("g", -5, -1)),
		addGauge(api.ErrRange, gauge("h", -5, 1001)),
		addGauge(api.ErrOrder, gauge("i", 0, 0)),
		{api.ErrShape, func(f *api.Fairway) { f.Reaches = nil }},
		{api.ErrLarge, func(f *api.Fairway) { f.Reaches = append(f.Reaches, make([]api.Reach, 9)...) }},
		addReach(api.ErrName, api.Reach{Name: "?"}),
		addReach(api.ErrExists, api.Reach{Name: "bar"}),
		addReach(api.ErrRange, reach("z", 0)),
		{api.ErrLarge, func(f *api.Fairway) { f.Taken = append(f.Taken, make([]api.Taken, 61)...) }},
		addClosure(api.ErrMissing, "Bar", -1, -1),
		addClosure(api.ErrRange, "bar", 1, 0),
	}
}

func TestP82CheckFairway(t *testing.T) {
	bare := bar()
	bare.Gauges = nil
	for _, f := range []api.Fairway{bar(), full(), bare, taken(bar(), "pool", 0, 0), taken(bar(), "bar", latest, latest), deep(reach("A-1234567890", 1000))} {
		same(t, trip.CheckFairway(f), api.OK, "CheckFairway", f)
	}
	all := fairwayChanges()
	for i, first := range all {
		f := bar()
		first.make(&f)
		allRefused(t, fairwayCalls(f), first.want, i)
		for j, later := range all[i+1:] {
			f := bar()
			first.make(&f)
			later.make(&f)
			if first.want == api.ErrShape {
				first.make(&f) // the later one may have added a reach
			}
			same(t, trip.CheckFairway(f), first.want, "CheckFairway", i, i+1+j)
		}
	}
}

// One more than in a full fairway is too much.
func TestP82CheckFairwayCounts(t *testing.T) {
	for k, x := range []change{
		addGauge(api.ErrLarge, gauge("z", 99, 0)),
		addReach(api.ErrLarge, reach("z", 1)),
		addClosure(api.ErrLarge, "a", 0, 0),
	} {
		f := full()
		x.make(&f)
		allRefused(t, fairwayCalls(f), x.want, k)
	}
}

func TestP82CheckReach(t *testing.T) {
	for _, r := range []api.Reach{
		{Name: "z", X: farthest, Level: highest, Minutes: 1000, Clear: 1000, Wait: true, One: true},
		{Name: "Z-9", X: -farthest, Level: -highest, Minutes: 1},
	} {
		f := bar()
		addReach(api.OK, r).make(&f)
		same(t, trip.CheckFairway(f), api.OK, "CheckFairway", r)
	}
	for k, x := range []change{
		addReach(api.ErrName, reach("", 1)),
		addReach(api.ErrName, reach("A-12345678901", 1)),
		addReach(api.ErrName, reach("a_b", 1)),
		addReach(api.ErrName, reach("9", 1)),
		addReach(api.ErrExists, reach("pool", 0)), // before ErrRange
		addReach(api.ErrRange, reachWith(func(r *api.Reach) { r.X = farthest + 1 })),
		addReach(api.ErrRange, reachWith(func(r *api.Reach) { r.X = -farthest - 1 })),
		addReach(api.ErrRange, reachWith(func(r *api.Reach) { r.Level = highest + 1 })),
		addReach(api.ErrRange, reachWith(func(r *api.Reach) { r.Level = -highest - 1 })),
		addReach(api.ErrRange, reachWith(func(r *api.Reach) { r.Minutes = 0 })),
		addReach(api.ErrRange, reachWith(func(r *api.Reach) { r.Minutes = 1001 })),
		addReach(api.ErrRange, reachWith(func(r *api.Reach) { r.Clear = -1 })),
		addReach(api.ErrRange, reachWith(func(r *api.Reach) { r.Clear = 1001 })),
		addReach(api.ErrRange, reachWith(func(r *api.Reach) { r.X, r.Clear = math.MinInt, math.MaxInt })),
		addClosure(api.ErrMissing, "", 0, 0),
		addClosure(api.ErrMissing, "zzz", 5, 4), // before ErrRange
		addClosure(api.ErrRange, "pool", -1, 5),
		addClosure(api.ErrRange, "pool", 5, 4),
		addClosure(api.ErrRange, "pool", 0, latest+1),
		addClosure(api.ErrRange, "pool", math.MinInt, math.MaxInt),
		{api.ErrExists, func(f *api.Fairway) { // the first reach that is wrong
			f.Reaches = append(f.Reaches, reach("bar", 1), reach("?", 1))
		}},
		{api.ErrRange, func(f *api.Fairway) { f.Reaches = append(f.Reaches, reach("z", 0), reach("z", 0)) }},
		{api.ErrRange, func(f *api.Fairway) { f.Taken = []api.Taken{closure("bar", 1, 0), closure("?", 0, 0)} }},
		{api.ErrMissing, func(f *api.Fairway) { f.Taken = []api.Taken{closure("bar", 0, 0), closure("?", 0, 0)} }},
	} {
		f := bar()
		x.make(&f)
		allRefused(t, fairwayCalls(f), x.want, k)
	}
}

// between is a fairway whose reaches lie before, between and behind two gauges.
func between() api.Fairway {
	return api.Fairway{
		Gauges: []api.Gauge{gauge("a", 0, 2, mark(0, 0), mark(10, 25)), gauge("b", 1000, 0, mark(0, 100), mark(10, 100), mark(20, 100))},
		Reaches: []api.Reach{
			{Name: "west", X: -5, Level: -10, Minutes: 1}, {Name: "mid", X: 250, Level: -10, Minutes: 1, Clear: 3}, {Name: "east", X: 2000, Level: 90, Minutes: 1},
		},
	}
}

func TestP82Clearance(t *testing.T) {
	f := taken(bar(), "bar", 0, 200)
	for _, x := range []struct {
		f               api.Fairway
		reach           string
		draught, minute int
		want            int
	}{
		// a closure is no matter of the clearance
		{f, "bar", 350, 60, 70}, {f, "bar", 350, 0, -50}, {f, "bar", 350, 100, 150}, {f, "bar", 0, 100, 500}, {f, "bar", 5000, 100, -4500}, {f, "pool", 350, 0, 250},
		{between(), "west", 4, 3, 5 + 10 - 4}, {between(), "mid", 50, 10, 42 + 10 - 50}, {between(), "east", 11, 20, -1}, {between(), "east", 10, 20, 0},
	} {
		n, e := trip.Clearance(x.f, x.reach, x.draught, x.minute)
		same(t, e, api.OK, "Clearance", x)
		same(t, n, x.want, "Clearance", x)
	}
	bare := bar()
	bare.Gauges = nil
	for _, x := range []struct {
		f               api.Fairway
		reach           string
		draught, minute int
		want            api.Errno
	}{
		{f, "", 350, 60, api.ErrMissing}, {f, "Bar", -1, -1, api.ErrMissing}, {f, "bar ", 5001, 60, api.ErrMissing},
		{f, "bar", -1, 60, api.ErrRange}, {f, "bar", 5001, 60, api.ErrRange}, {f, "bar", 350, -1, api.ErrRange}, {f, "bar", 350, latest + 1, api.ErrRange},
		{bare, "bar", -1, 60, api.ErrRange}, {bare, "bar", math.MinInt, 60, api.ErrRange}, {bare, "bar", 0, math.MaxInt, api.ErrRange},
		{f, "bar", 350, 101, api.ErrNone}, {f, "bar", 350, latest, api.ErrNone}, {bare, "bar", 350, 60, api.ErrNone},
		{between(), "mid", 5, 11, api.ErrNone}, {between(), "west", 5, 11, api.ErrNone},
	} {
		same(t, of(trip.Clearance(x.f, x.reach, x.draught, x.minute)), refused(x.want), "Clearance", x)
	}
}

func TestP82Open(t *testing.T) {
	for _, x := range []struct {
		f       api.Fairway
		reach   string
		draught int
		w       api.Window
		want    []api.Window
	}{
		{bar(), "bar", 350, window(0, 120), []api.Window{window(50, 100)}},
		{bar(), "bar", 350, window(60, 70), []api.Window{window(60, 70)}},
		{bar(), "bar", 350, window(50, 50), []api.Window{window(50, 50)}},
		{bar(), "bar", 350, window(0, 49), nil}, {bar(), "bar", 350, window(101, 3101), nil}, {bar(), "bar", 451, window(0, 3000), nil},
		{bar(), "bar", 450, window(0, 3000), []api.Window{window(100, 100)}}, {bar(), "bar", 0, window(0, 3000), []api.Window{window(0, 100)}},
		{bar(), "pool", 350, window(0, 3000), []api.Window{window(0, 100)}},
		{taken(bar(), "bar", 55, 60), "bar", 350, window(0, 120), []api.Window{window(50, 54), window(61, 100)}},
		{taken(bar(), "bar", 55, 60), "pool", 350, window(0, 50), []api.Window{window(0, 50)}},
		{taken(bar(), "bar", 0, 50), "bar", 350, window(0, 120), []api.Window{window(51, 100)}},
		{taken(bar(), "bar", 0, 49), "bar", 350, window(0, 120), []api.Window{window(50, 100)}},
		{taken(bar(), "bar", 100, latest), "bar", 350, window(0, 120), []api.Window{window(50, 99)}},
		{taken(bar(), "bar", 0, latest), "bar", 350, window(40, 60), nil},
		{taken(bar(), "bar", 52, 52), "bar", 350, window(52, 54), []api.Window{window(53, 54)}},
		// several closures overlap, and others touch
		{taken(taken(taken(bar(), "bar", 60, 70), "bar", 55, 65), "bar", 62, 63), "bar", 350, window(0, 120), []api.Window{window(50, 54), window(71, 100)}},
		{taken(taken(bar(), "bar", 60, 69), "bar", 70, 70), "bar", 350, window(58, 75), []api.Window{window(58, 59), window(71, 75)}},
		{deep(reach("r", 1)), "r", 100, window(latest-3000, latest), []api.Window{window(latest-3000, latest)}},
		{deep(reach("r", 1)), "r", 101, window(0, 3000), nil},
		{between(), "mid", 49, window(0, 20), []api.Window{window(10, 10)}},
		{between(), "mid", 50, window(0, 20), nil},
	} {
		l, e := trip.Open(x.f, x.reach, x.draught, x.w)
		same(t, e, api.OK, "Open", x)
		sameList(t, l, x.want, "Open", x)
	}
	for _, x := range []struct {
		reach   string
		draught int
		w       api.Window
		want    api.Errno
	}{
		{"", 350, window(0, 1), api.ErrMissing}, {"Pool", -1, window(1, 0), api.ErrMissing}, {"bar", -1, window(0, 1), api.ErrRange}, {"bar", 5001, window(0, 1), api.ErrRange},
		{"bar", 350, window(1, 0), api.ErrRange}, {"bar", 350, window(-1, 0), api.ErrRange}, {"bar", 350, window(0, 3001), api.ErrRange},
		{"bar", 350, window(latest, latest+1), api.ErrRange}, {"bar", 350, window(math.MinInt, math.MaxInt), api.ErrRange}, {"bar", math.MaxInt, window(0, 1), api.ErrRange},
	} {
		same(t, of(trip.Open(bar(), x.reach, x.draught, x.w)), refused(x.want), "Open", x)
	}
}

func TestP82Oracle(t *testing.T) {
	s := &numbers{82}
	for range 1000 {
		f := s.fairway()
		r := f.Reaches[s.next(len(f.Reaches))]
		w := window(s.next(10), 10+s.next(40))
		draught := s.next(25)
		l, e := trip.Open(f, r.Name, draught, w)
		same(t, e, api.OK, "Open", f, r)
		var got []int
		for i, v := range l {
			same(t, v.From <= v.To && (i == 0 || l[i-1].To+1 < v.From), true, "the greatest windows", f, r, l)
			got = append(got, from(v.From, v.To)...)
		}
		var want []int
		for minute := w.From; minute <= w.To; minute++ {
			reason := shut(f, r, draught, minute)
			if reason == api.OK {
				want = append(want, minute)
			}
			n, e := trip.Clearance(f, r.Name, draught, minute)
			same(t, e == api.ErrNone, reason == api.ErrNone, "Clearance: the error", f, r, minute)
			same(t, e == api.OK && n < r.Clear, reason == api.ErrWater, "Clearance", f, r, minute)
		}
		sameList(t, got, want, "Open", f, r, draught, w)
		same(t, slices.IsSorted(got), true, "ascending", f)
	}
}
