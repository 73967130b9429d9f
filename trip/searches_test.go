package trip_test

import (
	"math"
	"slices"
	"testing"

	"draghead/api"
	"draghead/trip"
)

// finds fails the test unless these are the earliest and the latest trip.
func finds(t *testing.T, f api.Fairway, p api.Passage, first, last api.Trip, about ...any) {
	t.Helper()
	got, proof, e := trip.Earliest(f, p)
	same(t, e, api.OK, "Earliest", p, about)
	sameTrip(t, got, first, "Earliest", p, about)
	same(t, len(proof.Enter), 0, "Earliest: the proof", p, about)
	got, e = trip.Latest(f, p)
	same(t, e, api.OK, "Latest", p, about)
	sameTrip(t, got, last, "Latest", p, about)
	for _, x := range []api.Trip{first, last} {
		_, e = trip.CheckTrip(f, p, x)
		same(t, e, api.OK, "CheckTrip", p, x, about)
	}
}

// findsNone fails the test unless there is no trip, and this is the least proof.
func findsNone(t *testing.T, f api.Fairway, p api.Passage, want api.Closed, about ...any) {
	t.Helper()
	got, proof, e := trip.Earliest(f, p)
	same(t, e, api.ErrNone, "Earliest", p, about)
	sameTrip(t, got, api.Trip{}, "Earliest", p, about)
	sameProof(t, proof, want, "Earliest: the proof", p, about)
	same(t, trip.CheckClosed(f, p, proof), api.OK, "CheckClosed", p, about)
	same(t, of(trip.Latest(f, p)), refused(api.ErrNone), "Latest", p, about)
	l, e := trip.Departures(f, p)
	same(t, e, api.OK, "Departures", p, about)
	same(t, len(l), 0, "Departures", p, about)
}

func TestP84Examples(t *testing.T) {
	f, p := bar(), loaded(0, 100)
	finds(t, f, p, sailing(65, 50, 60), sailing(100, 85, 95))
	finds(t, f, back(p), sailing(60, 0, 50), sailing(100, 85, 90))
	findsNone(t, f, loaded(0, 60), closed(from(50, 60), []int{60}))
	finds(t, taken(f, "bar", 50, 59), p, sailing(75, 60, 70), sailing(100, 85, 95))
}

func TestP84Trips(t *testing.T) {
	a, b := deep(waiting("a", 2), reach("b", 3)), deep(reach("b", 3), waiting("a", 2))
	for k, x := range []struct {
		f           api.Fairway
		p           api.Passage
		first, last api.Trip
	}{
		{a, passage("s", 100, 0, 5), sailing(5, 0, 2), sailing(5, 0, 2)},
		{a, passage("s", 100, 7, 20), sailing(12, 7, 9), sailing(20, 15, 17)},
		{a, passage("s", 100, latest-5, latest), sailing(latest, latest-5, latest-3), sailing(latest, latest-5, latest-3)},
		{a, passage("s", 0, 0, 3000), sailing(5, 0, 2), sailing(3000, 2995, 2997)},
		{taken(a, "b", 0, 5), passage("s", 100, 0, 20), sailing(9, 0, 6), sailing(20, 15, 17)},
		// several trips are out at 9: the first entry counts
		{taken(a, "b", 0, 5), passage("s", 100, 3, 20), sailing(9, 3, 6), sailing(20, 15, 17)},
		{taken(taken(a, "b", 0, 5), "b", 9, 99), passage("s", 100, 0, 20), sailing(9, 0, 6), sailing(9, 4, 6)},
		// it cannot wait through a closure
		{taken(taken(a, "b", 0, 5), "a", 3, 3), passage("s", 100, 0, 20), sailing(9, 4, 6), sailing(20, 15, 17)},
		{taken(taken(a, "b", 0, 5), "a", 4, 4), passage("s", 100, 0, 20), sailing(10, 5, 7), sailing(20, 15, 17)},
		// it may be out when nothing is open any more
		{taken(taken(a, "b", 5, 99), "a", 2, 99), passage("s", 100, 0, 20), sailing(5, 0, 2), sailing(5, 0, 2)},
		// waiting in the last reach is never of use
		{b, passage("s", 100, 0, 20), sailing(5, 0, 3), sailing(20, 15, 18)},
		{b, back(passage("s", 100, 0, 20)), sailing(5, 0, 2), sailing(20, 15, 17)},
		{taken(b, "a", 0, 9), passage("s", 100, 0, 20), sailing(12, 7, 10), sailing(20, 15, 18)},
		{deep(waiting("a", 1), waiting("b", 1), reach("c", 1)), passage("s", 100, 0, 9), sailing(3, 0, 1, 2), sailing(9, 6, 7, 8)},
		// the second entry counts where the first ones are the same
		{taken(deep(waiting("a", 1), waiting("b", 1), reach("c", 1)), "c", 0, 5), passage("s", 100, 0, 9), sailing(7, 0, 1, 6), sailing(9, 6, 7, 8)},
		{taken(taken(deep(waiting("a", 1), waiting("b", 1), reach("c", 1)), "c", 0, 5), "b", 0, 2), passage("s", 100, 0, 9), sailing(7, 0, 3, 6), sailing(9, 6, 7, 8)},
		{taken(taken(deep(waiting("a", 1), waiting("b", 1), reach("c", 1)), "c", 0, 5), "b", 3, 3), passage("s", 100, 0, 9), sailing(7, 0, 4, 6), sailing(9, 6, 7, 8)},
		// of the latest ones that with the least Out
		{taken(deep(waiting("a", 1), reach("b", 1)), "a", 4, 9), passage("s", 100, 0, 9), sailing(2, 0, 1), sailing(5, 3, 4)},
		{deep(reach("z", 1000)), passage("s", 100, 0, 1000), sailing(1000, 0), sailing(1000, 0)},
		{alone3(), passage("s", 100, 0, 9), sailing(3, 0, 1, 2), sailing(9, 6, 7, 8)},
	} {
		finds(t, x.f, x.p, x.first, x.last, k)
	}
}

// alone3 is a fairway whose reaches take one ship at a time: that hinders nobody who is alone.
func alone3() api.Fairway {
	return deep(alone(reach("a", 1)), alone(waiting("b", 1)), alone(reach("c", 1)))
}

func TestP84NoTrips(t *testing.T) {
	two := deep(reach("a", 2), waiting("b", 3))
	bare := bar()
	bare.Gauges = nil
	for k, x := range []struct {
		f    api.Fairway
		p    api.Passage
		want api.Closed
	}{
		{two, passage("s", 100, 5, 5), closed([]int{5}, nil)},
		{two, passage("s", 101, 5, 5), closed(nil, nil)},
		{two, passage("s", 100, 0, 4), closed(from(0, 4), from(2, 4))},
		{two, back(passage("s", 100, 0, 4)), closed(from(0, 4), from(3, 4))},
		{two, passage("s", 101, 0, 99), closed(nil, nil)},
		{taken(two, "a", 0, 99), passage("s", 100, 0, 99), closed(nil, nil)},
		{taken(two, "b", 0, 99), passage("s", 100, 0, 9), closed(from(0, 9), nil)},
		{taken(taken(two, "b", 0, 5), "b", 8, 99), passage("s", 100, 0, 9), closed(from(0, 9), from(6, 7))},
		{taken(taken(two, "a", 0, 3), "a", 5, 5), passage("s", 100, 0, 7), closed([]int{4, 6, 7}, nil)},
		{deep(waiting("a", 2), reach("b", 3)), passage("s", 100, 0, 4), closed(from(0, 4), from(2, 4))},
		// a closure between the two minutes at which it could be waited
		{taken(taken(deep(waiting("a", 2), reach("b", 3)), "b", 0, 5), "a", 5, 99), passage("s", 100, 0, 8), closed(from(0, 4), nil)},
		{taken(taken(deep(waiting("a", 2), reach("b", 3)), "b", 0, 5), "a", 6, 99), passage("s", 100, 0, 8), closed(from(0, 5), []int{6})},
		{bare, loaded(0, 3000), closed(nil, nil)},
		{deep(reach("z", 1000)), passage("s", 100, 0, 999), closed(from(0, 999))},
		{deep(reach("z", 1)), passage("s", 100, latest, latest), closed([]int{latest})},
	} {
		findsNone(t, x.f, x.p, x.want, k)
	}
}

func TestP84CheckClosed(t *testing.T) {
	f, p := bar(), loaded(0, 60)
	for k, x := range []struct {
		want api.Errno
		p    api.Passage
		c    api.Closed
	}{
		{api.OK, p, closed(from(50, 60), []int{60})},
		{api.OK, p, closed(from(0, 60), []int{60})}, // more than is required
		{api.OK, p, closed(from(50, 60), from(56, 60))},
		{api.OK, p, closed(append([]int{7}, from(50, 60)...), []int{60})},
		{api.OK, loaded(0, 49), closed(nil, nil)},
		{api.OK, loaded(0, 49), closed([]int{}, []int{})},
		{api.OK, loaded(50, 50), closed([]int{50}, nil)},
		{api.OK, back(loaded(0, 59)), closed(from(0, 59), from(50, 59))},
		{api.ErrShape, p, closed()},
		{api.ErrShape, p, closed([]int{-1})}, // before ErrRange
		{api.ErrShape, p, closed(from(50, 60), []int{60}, nil)},
		{api.ErrRange, p, closed(from(50, 60), []int{61})},
		{api.ErrRange, p, closed(from(50, 60), []int{60, 61})},
		{api.ErrRange, p, closed([]int{-1}, []int{60})},
		{api.ErrRange, p, closed([]int{5, -1}, []int{60})}, // before ErrOrder
		{api.ErrRange, loaded(3, 60), closed([]int{2}, []int{60})},
		{api.ErrRange, p, closed([]int{61}, []int{5, 5})}, // list by list
		{api.ErrRange, p, closed([]int{math.MinInt}, []int{math.MaxInt})},
		{api.ErrOrder, p, closed([]int{5, 5}, []int{60})},
		{api.ErrOrder, p, closed([]int{5, 4, -1}, []int{60})}, // the first minute that is wrong
		{api.ErrOrder, p, closed([]int{5, 5}, []int{61})},
		{api.ErrOrder, p, closed(from(50, 60), []int{60, 60})},
		{api.ErrProof, p, closed(from(50, 60), nil)},
		{api.ErrProof, p, closed(from(51, 60), []int{60})},
		{api.ErrProof, p, closed(from(50, 59), []int{60})},
		{api.ErrProof, p, closed(append(from(50, 54), from(56, 60)...), []int{60})},
		{api.ErrProof, p, closed(nil, nil)},
		{api.ErrProof, p, closed(from(50, 60), []int{59})},
		{api.ErrProof, p, closed(from(50, 60), []int{55, 60})}, // a ship that enters at 55 is out at 60
		{api.ErrProof, p, closed(from(50, 60), from(50, 60))},
		{api.ErrProof, loaded(50, 50), closed(nil, nil)},
		{api.ErrProof, loaded(0, 100), closed(from(50, 100), from(60, 100))}, // there is a trip
		{api.ErrProof, back(loaded(0, 60)), closed(from(0, 60), from(50, 60))},
		{api.ErrProof, back(loaded(0, 59)), closed(from(0, 59), from(51, 59))},
	} {
		same(t, trip.CheckClosed(f, x.p, x.c), x.want, "CheckClosed", k, x)
	}
}

// closed is a closed list of a passage that is often a proof, and often nearly so.
func (s *numbers) closed(f api.Fairway, p api.Passage) api.Closed {
	out := leastProof(f, p)
	for range s.next(4) {
		k := s.next(len(out.Enter))
		minute := p.From + s.next(p.To-p.From+1)
		if i, is := slices.BinarySearch(out.Enter[k], minute); !is {
			out.Enter[k] = slices.Insert(out.Enter[k], i, minute)
		} else if s.is(3) {
			out.Enter[k] = slices.Delete(out.Enter[k], i, i+1)
		}
	}
	return out
}

func TestP84Oracle(t *testing.T) {
	s := &numbers{84}
	trips, proofs, refusals := 0, 0, 0
	for range 4000 {
		f := s.fairway()
		p := s.passage("s")
		all := everyTrip(f, p)
		if len(all) > 0 {
			finds(t, f, p, earliestOf(all), latestOf(all), f)
			trips++
		} else {
			findsNone(t, f, p, leastProof(f, p), f)
		}
		for range 3 {
			c := s.closed(f, p)
			want := api.ErrProof
			if proves(f, p, c) {
				want = api.OK
				same(t, len(all), 0, "trips beside a proof", f, p, c)
				proofs++
			} else if len(all) == 0 {
				refusals++
			}
			same(t, trip.CheckClosed(f, p, c), want, "CheckClosed", f, p, c)
		}
	}
	same(t, trips > 500 && proofs > 500 && refusals > 500, true, "there is enough of each", trips, proofs, refusals)
}

func TestP85Departures(t *testing.T) {
	f, p := bar(), loaded(0, 100)
	for k, x := range []struct {
		f    api.Fairway
		p    api.Passage
		want []int
	}{
		{f, p, from(50, 85)},
		{f, back(p), from(0, 85)},
		{f, loaded(60, 80), from(60, 65)},
		{f, loaded(0, 65), []int{50}},
		{f, loaded(0, 64), nil},
		{f, loaded(50, 50), nil},
		{taken(f, "bar", 60, 62), p, append([]int{50}, from(63, 85)...)},
		{taken(f, "bar", 58, 62), p, from(63, 85)},
		{taken(f, "pool", 70, 90), p, append(from(50, 55), from(81, 85)...)},
		{taken(f, "pool", 30, 39), back(p), from(40, 85)},
		{taken(f, "pool", 55, 57), back(p), append(from(0, 50), from(58, 85)...)},
	} {
		l, e := trip.Departures(x.f, x.p)
		same(t, e, api.OK, "Departures", k)
		sameList(t, l, x.want, "Departures", k)
	}
}

func TestP85Latest(t *testing.T) {
	f := taken(taken(deep(waiting("a", 1), waiting("b", 1), reach("c", 1)), "c", 0, 7), "a", 3, 99)
	// it has to leave a at 3, waits in b, and can enter c from 8 on
	x, e := trip.Latest(f, passage("s", 100, 0, 20))
	same(t, e, api.OK, "Latest")
	sameTrip(t, x, sailing(9, 2, 3, 8), "Latest")
	x, e = trip.Latest(taken(f, "b", 0, 0), back(passage("s", 100, 0, 20)))
	same(t, e, api.ErrNone, "Latest") // a is shut from 3 on, and c before 8
	sameTrip(t, x, api.Trip{}, "Latest")
}

func TestP85Oracle(t *testing.T) {
	s := &numbers{85}
	for range 2000 {
		f := s.fairway()
		p := s.passage("s")
		l, e := trip.Departures(f, p)
		same(t, e, api.OK, "Departures", f, p)
		sameList(t, l, departuresOf(everyTrip(f, p)), "Departures", f, p)
	}
}
