package trip_test

import (
	"slices"
	"testing"

	"draghead/api"
	"draghead/trip"
)

// list is passages, one after another.
func list(l ...api.Passage) []api.Passage { return l }

// ship is a passage with the draught 350 from 0 on.
func ship(name string, to int) api.Passage { return passage(name, 350, 0, to) }

func TestP87Occupied(t *testing.T) {
	f := deep(alone(waiting("a", 1)), reach("b", 2), alone(reach("c", 3)))
	p := passage("s", 0, 0, 100)
	for k, x := range []struct {
		f    api.Fairway
		p    api.Passage
		t    api.Trip
		want []api.Taken
	}{
		{single(), loaded(0, 100), sailing(65, 50, 60), []api.Taken{closure("bar", 50, 59)}},
		{bar(), loaded(0, 100), sailing(65, 50, 60), nil},
		{f, p, sailing(6, 0, 1, 3), []api.Taken{closure("a", 0, 0), closure("c", 3, 5)}},
		{f, p, sailing(100, 5, 95, 97), []api.Taken{closure("a", 5, 94), closure("c", 97, 99)}},
		{f, back(p), sailing(99, 10, 13, 15), []api.Taken{closure("c", 10, 12), closure("a", 15, 98)}},
	} {
		l, e := trip.Occupied(x.f, x.p, x.t)
		same(t, e, api.OK, "Occupied", k)
		sameList(t, l, x.want, "Occupied", k)
	}
	same(t, of(trip.Occupied(f, p, sailing(6, 0, 1, 4))), refused(api.ErrState), "Occupied")
	same(t, of(trip.Occupied(f, p, sailing(6, 0, 1))), refused(api.ErrShape), "Occupied")
}

func TestP87Meets(t *testing.T) {
	f := deep(alone(waiting("a", 1)), waiting("b", 2), alone(waiting("c", 3)))
	p := passage("s", 0, 0, 100)
	for k, x := range []struct {
		q    api.Passage
		t, u api.Trip
		want []api.Fault
	}{
		{p, sailing(6, 0, 1, 3), sailing(6, 0, 1, 3), []api.Fault{fault(0, "a", api.ErrTraffic), fault(3, "c", api.ErrTraffic)}},
		{p, sailing(6, 0, 1, 3), sailing(9, 1, 2, 6), nil},
		{p, sailing(6, 0, 1, 3), sailing(9, 1, 2, 5), []api.Fault{fault(5, "c", api.ErrTraffic)}},
		{p, sailing(9, 1, 2, 5), sailing(6, 0, 1, 3), []api.Fault{fault(5, "c", api.ErrTraffic)}},
		{p, sailing(50, 10, 20, 22), sailing(90, 19, 20, 50), []api.Fault{fault(19, "a", api.ErrTraffic)}},
		{p, sailing(50, 10, 20, 22), sailing(90, 20, 21, 49), []api.Fault{fault(49, "c", api.ErrTraffic)}},
		{p, sailing(50, 10, 20, 22), sailing(90, 0, 30, 32), []api.Fault{fault(10, "a", api.ErrTraffic), fault(32, "c", api.ErrTraffic)}},
		{back(p), sailing(6, 0, 1, 3), sailing(12, 6, 9, 11), nil},
		// on the way back c comes first
		{back(p), sailing(6, 0, 1, 3), sailing(14, 5, 8, 10), []api.Fault{fault(5, "c", api.ErrTraffic)}},
		{back(p), sailing(40, 0, 30, 32), sailing(30, 20, 23, 25), []api.Fault{fault(25, "a", api.ErrTraffic)}},
		{back(p), sailing(60, 0, 40, 42), sailing(30, 20, 23, 25), []api.Fault{fault(25, "a", api.ErrTraffic)}},
		{back(p), sailing(60, 10, 40, 42), sailing(70, 43, 47, 49), []api.Fault{fault(43, "c", api.ErrTraffic)}},
	} {
		// a ship of another name, and with another draught and window
		q := passage("t", 50, 0, 90)
		q.Back = x.q.Back
		u := with("t", x.u)
		l, e := trip.Meets(f, p, q, x.t, u)
		same(t, e, api.OK, "Meets", k)
		sameList(t, l, x.want, "Meets", k)
		l, e = trip.Meets(f, q, p, u, x.t)
		same(t, e, api.OK, "Meets", k)
		sameList(t, l, x.want, "Meets", k)
	}
	// in the order of the fairway also if both are on the way back
	l, e := trip.Meets(f, back(p), back(p), sailing(50, 10, 20, 22), sailing(60, 12, 30, 32))
	same(t, e, api.OK, "Meets")
	sameList(t, l, []api.Fault{fault(32, "a", api.ErrTraffic), fault(12, "c", api.ErrTraffic)}, "Meets")
	// the error of the first trip comes before that of the second one
	early, short := sailing(6, 0, 1, 2), sailing(6, 0, 1)
	same(t, of(trip.Meets(f, p, p, early, short)), refused(api.ErrOrder), "Meets")
	same(t, of(trip.Meets(f, p, p, short, early)), refused(api.ErrShape), "Meets")
	same(t, of(trip.Meets(f, p, p, sailing(6, 0, 1, 3), early)), refused(api.ErrOrder), "Meets")
	same(t, of(trip.Meets(f, p, passage("?", 0, 1, 0), early, short)), refused(api.ErrOrder), "Meets")
	same(t, of(trip.Meets(f, p, passage("?", 0, 1, 0), sailing(6, 0, 1, 3), short)), refused(api.ErrName), "Meets")
}

func TestP87Timetable(t *testing.T) {
	hard := single()
	hard.Reaches[1].One = true
	for k, x := range []struct {
		f    api.Fairway
		l    []api.Passage
		want []api.Trip
	}{
		{single(), nil, nil},
		{single(), list(), nil},
		{single(), list(ship("s", 100), ship("t", 100)), []api.Trip{sailing(65, 50, 60), with("t", sailing(75, 60, 70))}},
		{bar(), list(ship("s", 100), ship("t", 100)), []api.Trip{sailing(65, 50, 60), with("t", sailing(65, 50, 60))}},
		{single(), list(ship("t", 100), ship("s", 100)), []api.Trip{with("t", sailing(65, 50, 60)), sailing(75, 60, 70)}},
		{single(), list(ship("s", 100), back(ship("t", 100))), []api.Trip{sailing(65, 50, 60), with("t", sailing(70, 0, 60))}},
		// in the pool there is only one
		{hard, list(back(ship("s", 100)), ship("t", 100)), []api.Trip{sailing(60, 0, 50), with("t", sailing(75, 60, 70))}},
		{hard, list(ship("s", 100), back(ship("t", 100))), []api.Trip{sailing(65, 50, 60), with("t", sailing(70, 0, 60))}},
		{hard, list(ship("s", 100), back(passage("t", 350, 56, 100))), []api.Trip{sailing(65, 50, 60), with("t", sailing(80, 65, 70))}},
		{single(), list(ship("s", 100), ship("t", 100), ship("u", 100), ship("v", 100)), []api.Trip{
			sailing(65, 50, 60), with("t", sailing(75, 60, 70)), with("u", sailing(85, 70, 80)), with("v", sailing(95, 80, 90)),
		}},
		// closures of the fairway stay
		{taken(single(), "bar", 60, 70), list(ship("s", 100), ship("t", 100)), []api.Trip{sailing(65, 50, 60), with("t", sailing(86, 71, 81))}},
		// a light one uses the minutes before
		{single(), list(ship("s", 100), passage("t", 300, 0, 100), passage("u", 250, 20, 100)), []api.Trip{
			sailing(65, 50, 60), with("t", sailing(40, 25, 35)), with("u", sailing(50, 35, 45)),
		}},
	} {
		l, e := trip.Timetable(x.f, x.l)
		same(t, e, api.OK, "Timetable", k)
		sameTrips(t, l, x.want, "Timetable", k)
	}
}

func TestP87TimetableErrors(t *testing.T) {
	four := list(ship("s", 100), ship("t", 100), ship("u", 100), ship("v", 100))
	for k, x := range []struct {
		want api.Errno
		l    []api.Passage
	}{
		{api.ErrLarge, append(slices.Clone(four), ship("w", 100))},
		{api.ErrLarge, make([]api.Passage, 5)}, // before ErrName
		{api.ErrName, list(ship("s", 100), ship("", 100), ship("s", 100))},
		{api.ErrRange, list(ship("s", 100), passage("s", -1, 0, 100))}, // before ErrExists
		{api.ErrRange, list(ship("s", 100), passage("s", 350, 1, 0), ship("?", 100))},
		{api.ErrExists, list(ship("s", 100), ship("s", 100), ship("?", 100))},
		{api.ErrExists, list(ship("s", 100), ship("t", 100), ship("u", 100), ship("t", 0))},
		{api.ErrExists, list(ship("s", 0), ship("s", 0))}, // before ErrNone
		{api.ErrExists, list(ship("s", 100), back(ship("s", 100)))},
		{api.ErrName, list(ship("s", 0), ship("?", 0))},
		{api.ErrNone, list(ship("s", 0))},
		{api.ErrNone, list(ship("s", 100), ship("t", 64))},
		{api.ErrNone, list(ship("s", 70), ship("t", 70))}, // each one alone would be in time
	} {
		same(t, of(trip.Timetable(single(), x.l)), refused(x.want), "Timetable", k)
		same(t, ofTwo(trip.BestOrder(single(), x.l)), refused(x.want), "BestOrder", k)
	}
	// another order has one
	l := list(ship("s", 100), ship("t", 65))
	same(t, of(trip.Timetable(single(), l)), refused(api.ErrNone), "Timetable")
	order, sum, e := trip.BestOrder(single(), l)
	same(t, e, api.OK, "BestOrder")
	sameList(t, order, []int{1, 0}, "BestOrder")
	same(t, sum, 65+75, "BestOrder: the sum")
}

// The closures that are added do not count.
func TestP87ManyClosures(t *testing.T) {
	f := single()
	for range api.MaxTaken {
		f.Taken = append(f.Taken, closure("bar", 0, 1))
	}
	l := list(ship("s", 100), ship("t", 100), ship("u", 100))
	trips, e := trip.Timetable(f, l)
	same(t, e, api.OK, "Timetable")
	sameTrips(t, trips, []api.Trip{sailing(65, 50, 60), with("t", sailing(75, 60, 70)), with("u", sailing(85, 70, 80))}, "Timetable")
	order, sum, e := trip.BestOrder(f, l)
	same(t, e, api.OK, "BestOrder")
	sameList(t, order, []int{0, 1, 2}, "BestOrder")
	same(t, sum, 65+75+85, "BestOrder: the sum")
}

func TestP87BestOrder(t *testing.T) {
	f := deep(alone(reach("a", 10)))
	for k, x := range []struct {
		l    []api.Passage
		want []int
		sum  int
	}{
		{nil, nil, 0},
		{list(), nil, 0},
		{list(passage("s", 0, 5, 100)), []int{0}, 15},
		{list(passage("s", 0, 0, 100), passage("t", 0, 0, 100)), []int{0, 1}, 30},
		{list(passage("s", 0, 5, 100), passage("t", 0, 0, 100)), []int{1, 0}, 30}, // 15 + 25 the other way
		{list(passage("s", 0, 0, 100), passage("t", 0, 0, 10)), []int{1, 0}, 30},
		{list(passage("s", 0, 10, 100), passage("t", 0, 0, 100)), []int{0, 1}, 30},                                                                         // both ways
		{list(passage("s", 0, 30, 100), passage("t", 0, 25, 100), passage("u", 0, 0, 100), passage("v", 0, 5, 100)), []int{1, 0, 2, 3}, 35 + 45 + 10 + 20}, // u and v come before both
		{list(passage("s", 0, 0, 40), passage("t", 0, 0, 30), passage("u", 0, 0, 20), passage("v", 0, 0, 10)), []int{3, 2, 1, 0}, 100},
		{list(passage("s", 0, 0, 100), passage("t", 0, 0, 100), passage("u", 0, 0, 100), passage("v", 0, 0, 20)), []int{0, 3, 1, 2}, 100},
	} {
		order, sum, e := trip.BestOrder(f, x.l)
		same(t, e, api.OK, "BestOrder", k)
		sameList(t, order, x.want, "BestOrder", k)
		same(t, sum, x.sum, "BestOrder: the sum", k)
	}
}

// passages is at most n passages of ships with names of their own.
func (s *numbers) passages(n int) []api.Passage {
	var out []api.Passage
	for k := range s.next(n + 1) {
		p := s.passage(letter(k))
		p.To += 8
		out = append(out, p)
	}
	return out
}

// ordered is the numbers below n.
func ordered(n int) []int { return from(0, n-1) }

func TestP87Oracle(t *testing.T) {
	s := &numbers{87}
	plans, turned := 0, 0
	for range 600 {
		f := s.fairway()
		l := s.passages(3)
		trips, is := plan(f, l, ordered(len(l)))
		got, e := trip.Timetable(f, l)
		same(t, e == api.OK, is, "Timetable: the error", f, l)
		sameTrips(t, got, trips, "Timetable", f, l)
		order, least, is := bestPlan(f, l)
		best, sum, e := trip.BestOrder(f, l)
		same(t, e == api.OK, is, "BestOrder: the error", f, l)
		sameList(t, best, order, "BestOrder", f, l)
		same(t, sum, max(0, least), "BestOrder: the sum", f, l)
		if len(trips) > 1 {
			plans++
		}
		if !slices.IsSorted(order) {
			turned++
		}
	}
	same(t, plans > 50 && turned > 10, true, "there are timetables", plans, turned)
}

func TestP87MeetsOracle(t *testing.T) {
	s := &numbers{870}
	met := 0
	for range 1500 {
		f := s.fairway()
		p, q := s.passage("s"), s.passage("t")
		all, others := everyTrip(f, p), everyTrip(f, q)
		if len(all) == 0 || len(others) == 0 {
			continue
		}
		x, y := all[s.next(len(all))], others[s.next(len(others))]
		l, e := trip.Meets(f, p, q, x, y)
		same(t, e, api.OK, "Meets", f, p, q, x, y)
		sameList(t, l, meetings(f, p, q, x, y), "Meets", f, p, q, x, y)
		l2, e := trip.Occupied(f, p, x)
		same(t, e, api.OK, "Occupied", f, p, x)
		sameList(t, l2, occupiedBy(f, p, x), "Occupied", f, p, x)
		met += len(l)
	}
	same(t, met > 50, true, "ships meet", met)
}
