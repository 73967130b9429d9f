package trip_test

import (
	"math"
	"slices"
	"testing"

	"draghead/api"
	"draghead/trip"
)

func TestP83Passages(t *testing.T) {
	for k, x := range []struct {
		want api.Errno
		p    api.Passage
	}{
		{api.ErrName, passage("", -1, 1, 0)},
		{api.ErrName, passage("A-12345678901", 0, 0, 0)},
		{api.ErrName, passage("s t", 0, 0, 0)},
		{api.ErrRange, passage("s", 0, 1, 0)},
		{api.ErrRange, passage("s", 0, -1, 0)},
		{api.ErrRange, passage("s", 0, 0, 3001)},
		{api.ErrRange, passage("s", 0, latest, latest+1)},
		{api.ErrRange, passage("s", 0, math.MaxInt, math.MinInt)},
		{api.ErrRange, passage("s", 0, math.MinInt, math.MaxInt)},
	} {
		allRefused(t, passageCalls(bar(), x.p), x.want, k)
		allRefused(t, passageCalls(bar(), back(x.p)), x.want, k)
	}
	for _, draught := range []int{-1, 5001, math.MinInt, math.MaxInt} {
		p := passage("s", draught, 0, 100)
		calls := passageCalls(bar(), p)
		for name := range draughtCalls(bar(), p) {
			delete(calls, name)
		}
		allRefused(t, calls, api.ErrRange, draught)
	}
	for _, p := range []api.Passage{passage("A-1234567890", 0, 0, 3000), passage("s", 5000, latest, latest), passage("s", 0, latest-3000, latest)} {
		for _, q := range []api.Passage{p, back(p)} {
			_, e := trip.Departures(bar(), q)
			same(t, e, api.OK, "Departures", q)
		}
	}
}

// sameFault fails the test unless a trip has this fault.
func sameFault(t *testing.T, f api.Fairway, p api.Passage, x api.Trip, want api.Fault, about ...any) {
	t.Helper()
	got, e := trip.CheckTrip(f, p, x)
	same(t, got, want, "CheckTrip", p, x, about)
	same(t, e, want.Reason, "CheckTrip: the error", p, x, about)
	if want.Reason != api.OK {
		same(t, of(trip.Occupied(f, p, x)), refused(want.Reason), "Occupied", p, x, about)
		same(t, of(trip.Meets(f, p, p, x, x)), refused(want.Reason), "Meets", p, x, about)
	}
}

func TestP83Forms(t *testing.T) {
	p := loaded(0, 100)
	for k, x := range []struct {
		want api.Errno
		trip api.Trip
	}{
		{api.ErrMissing, with("t", sailing(65, 50, 60))},
		{api.ErrMissing, with("", sailing(-1))},      // before ErrShape
		{api.ErrMissing, with("S", sailing(-1, -1))}, // before ErrRange
		{api.ErrShape, sailing(65)},
		{api.ErrShape, sailing(-1, -1)}, // before ErrRange
		{api.ErrShape, sailing(65, 50, 60, 61)},
		{api.ErrRange, sailing(65, -1, 60)},
		{api.ErrRange, sailing(65, 50, -1)},
		{api.ErrRange, sailing(-1, 50, 60)},
		{api.ErrRange, sailing(latest+1, 50, 60)},
		{api.ErrRange, sailing(65, 0, latest+1)}, // before the faults
		{api.ErrRange, sailing(math.MinInt, math.MaxInt, math.MinInt)},
	} {
		for _, q := range []api.Passage{p, back(p)} {
			same(t, of(trip.CheckTrip(bar(), q, x.trip)), refused(x.want), "CheckTrip", k)
			same(t, of(trip.Occupied(bar(), q, x.trip)), refused(x.want), "Occupied", k)
			same(t, of(trip.Meets(bar(), q, back(p), x.trip, sailing(60, 0, 50))), refused(x.want), "Meets", k)
			same(t, of(trip.Meets(bar(), p, q, sailing(65, 50, 60), x.trip)), refused(x.want), "Meets", k)
		}
	}
}

func TestP83Faults(t *testing.T) {
	f, p := bar(), loaded(0, 100)
	late := loaded(51, 64)
	shut := taken(f, "pool", 62, 63)
	flood := bar()
	flood.Gauges[0].Marks = append(flood.Gauges[0].Marks, mark(200, 300))
	for _, x := range []struct {
		f    api.Fairway
		p    api.Passage
		t    api.Trip
		want api.Fault
	}{
		{f, p, sailing(65, 50, 60), api.Fault{}},
		{f, p, sailing(100, 50, 60), api.Fault{}},
		{f, p, sailing(100, 85, 95), api.Fault{}},
		{f, back(p), sailing(60, 0, 50), api.Fault{}},
		{f, back(p), sailing(100, 85, 90), api.Fault{}},
		{f, loaded(50, 65), sailing(65, 50, 60), api.Fault{}},
		// before everything else: the first entry is too early
		{f, late, sailing(65, 50, 60), fault(50, "bar", api.ErrRange)},
		{f, late, sailing(0, 0, 0), fault(0, "bar", api.ErrRange)},
		{f, back(late), sailing(60, 50, 55), fault(50, "pool", api.ErrRange)},
		// stays
		{f, p, sailing(65, 50, 59), fault(50, "bar", api.ErrOrder)},
		{f, p, sailing(65, 50, 50), fault(50, "bar", api.ErrOrder)},
		{f, p, sailing(latest, latest, 0), fault(latest, "bar", api.ErrOrder)},
		{f, p, sailing(65, 0, 9), fault(0, "bar", api.ErrOrder)}, // before ErrWater
		{f, p, sailing(66, 50, 61), fault(50, "bar", api.ErrState)},
		{f, p, sailing(66, 0, 11), fault(0, "bar", api.ErrState)}, // before ErrWater
		{f, p, sailing(64, 50, 60), fault(60, "pool", api.ErrOrder)},
		{f, p, sailing(0, 50, 60), fault(60, "pool", api.ErrOrder)},
		{f, back(p), sailing(60, 46, 50), fault(46, "pool", api.ErrOrder)},
		{f, back(p), sailing(61, 0, 50), fault(50, "bar", api.ErrState)},
		{f, back(p), sailing(59, 0, 50), fault(50, "bar", api.ErrOrder)},
		// minutes at which a reach is not open
		{f, p, sailing(64, 49, 59), fault(49, "bar", api.ErrWater)},
		{f, p, sailing(15, 0, 10), fault(0, "bar", api.ErrWater)},
		{f, p, sailing(110, 95, 105), fault(101, "bar", api.ErrNone)},
		{f, p, sailing(103, 88, 98), fault(101, "pool", api.ErrNone)},
		{f, p, sailing(101, 85, 95), fault(101, "pool", api.ErrRange)}, // it is gone when the level is unknown
		{f, p, sailing(205, 150, 160), fault(150, "bar", api.ErrNone)},
		{shut, p, sailing(65, 50, 60), fault(62, "pool", api.ErrTraffic)},
		{shut, p, sailing(69, 54, 64), api.Fault{}},
		{shut, back(p), sailing(72, 57, 62), api.Fault{}},
		{shut, back(p), sailing(73, 58, 63), fault(62, "pool", api.ErrTraffic)},
		{taken(f, "bar", 0, 100), p, sailing(65, 49, 59), fault(49, "bar", api.ErrWater)}, // before ErrTraffic
		{taken(f, "bar", 0, 200), p, sailing(205, 150, 160), fault(150, "bar", api.ErrNone)},
		{taken(f, "bar", 0, 200), p, sailing(65, 50, 60), fault(50, "bar", api.ErrTraffic)},
		{taken(f, "bar", 59, 59), p, sailing(65, 50, 60), fault(59, "bar", api.ErrTraffic)},
		{taken(f, "bar", 60, 90), p, sailing(65, 50, 60), api.Fault{}},
		{taken(f, "bar", 0, 49), p, sailing(65, 50, 60), api.Fault{}},
		// the last of all: it is out too late
		{flood, p, sailing(101, 50, 60), fault(101, "pool", api.ErrRange)},
		{flood, p, sailing(200, 50, 60), fault(200, "pool", api.ErrRange)},
		{flood, p, sailing(202, 50, 60), fault(201, "pool", api.ErrNone)},
		{flood, back(p), sailing(101, 50, 91), fault(101, "bar", api.ErrRange)},
		{flood, loaded(100, 100), sailing(115, 100, 110), fault(115, "pool", api.ErrRange)},
	} {
		sameFault(t, x.f, x.p, x.t, x.want)
	}
}

// A ship may wait for longer than the minutes that are looked at together.
func TestP83LongStays(t *testing.T) {
	f := deep(waiting("a", 1), waiting("b", 1000))
	p := passage("s", 100, 0, 3000)
	for _, x := range []struct {
		f    api.Fairway
		t    api.Trip
		want api.Fault
	}{
		{f, sailing(3000, 0, 2000), api.Fault{}},
		{f, sailing(latest, 0, 1000), fault(latest, "b", api.ErrRange)},
		{f, sailing(latest, 0, latest-1000), fault(latest, "b", api.ErrRange)},
		{f, sailing(latest, 0, latest-999), fault(latest-999, "b", api.ErrOrder)},
		{taken(f, "a", 3000, 3000), sailing(latest, 0, latest-1000), fault(3000, "a", api.ErrTraffic)},
		{taken(f, "a", 3001, 3001), sailing(latest, 0, latest-1000), fault(3001, "a", api.ErrTraffic)},
		{taken(f, "a", 3002, 3002), sailing(latest, 0, latest-1000), fault(3002, "a", api.ErrTraffic)},
		{taken(f, "b", 6002, 6003), sailing(latest, 0, 1000), fault(6002, "b", api.ErrTraffic)},
		{taken(f, "b", latest-1, latest), sailing(latest, 0, 1000), fault(latest-1, "b", api.ErrTraffic)},
		{taken(f, "b", latest, latest), sailing(latest, 0, 1000), fault(latest, "b", api.ErrRange)},
		{taken(f, "b", 3000, 3000), sailing(3001, 0, 1), fault(3000, "b", api.ErrTraffic)},
		{taken(f, "b", 3001, 3001), sailing(3001, 0, 1), fault(3001, "b", api.ErrRange)},
	} {
		sameFault(t, x.f, p, x.t, x.want, x.f.Taken)
	}
}

// trip is a trip that is often right, and often nearly so.
func (s *numbers) trip(f api.Fairway, p api.Passage) api.Trip {
	if all := everyTrip(f, p); len(all) > 0 && !s.is(3) {
		x := all[s.next(len(all))]
		if s.is(2) {
			k := s.next(len(x.Enter))
			x.Enter[k] = max(0, x.Enter[k]+s.next(3)-1)
		}
		if s.is(3) {
			x.Out += s.next(3)
		}
		return x
	}
	minute := max(0, p.From-1+s.next(4))
	x := api.Trip{Ship: p.Ship}
	for _, r := range course(f, p) {
		x.Enter = append(x.Enter, minute)
		minute += r.Minutes
		if s.is(3) {
			minute += max(-minute, s.next(4)-1)
		}
	}
	x.Out = minute
	return x
}

func TestP83Oracle(t *testing.T) {
	s := &numbers{83}
	seen := map[api.Errno]int{}
	for range 4000 {
		f := s.fairway()
		p := s.passage("s")
		x := s.trip(f, p)
		want := firstFault(f, p, x)
		sameFault(t, f, p, x, want, f)
		seen[want.Reason]++
		right := slices.ContainsFunc(everyTrip(f, p), func(o api.Trip) bool { return equalTrips(o, x) })
		same(t, want.Reason == api.OK, right, "a right trip", f, p, x)
	}
	for _, e := range []api.Errno{api.OK, api.ErrRange, api.ErrOrder, api.ErrState, api.ErrNone, api.ErrWater, api.ErrTraffic} {
		same(t, seen[e] > 20, true, "there are faults", e, seen)
	}
}
