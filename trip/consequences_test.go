package trip_test

import (
	"maps"
	"math"
	"slices"
	"testing"

	"draghead/api"
	"draghead/tide"
	"draghead/trip"
)

// sea is a fairway with many reaches, and tides over many hours.
func (s *numbers) sea() api.Fairway {
	var f api.Fairway
	for k := range 1 + s.next(4) {
		g := gauge(letter(k), 300*k, s.next(20))
		for minute := -s.next(300); minute < 3600; minute += 150 + s.next(250) {
			if minute >= 0 {
				g.Marks = append(g.Marks, mark(minute, 200*(len(g.Marks)%2)+s.next(100)))
			}
		}
		f.Gauges = append(f.Gauges, g)
	}
	for k := range 1 + s.next(api.MaxReaches) {
		r := api.Reach{Name: letter(k), X: s.next(1200) - 100, Level: -120 - s.next(120), Minutes: 1 + s.next(60), Clear: s.next(60), Wait: s.is(2), One: s.is(2)}
		f.Reaches = append(f.Reaches, r)
	}
	for range s.next(20) {
		from := s.next(3000)
		f = taken(f, letter(s.next(len(f.Reaches))), from, from+s.next(60))
	}
	return f
}

// voyage is a passage through it.
func (s *numbers) voyage(ship string) api.Passage {
	from := 200 + s.next(1000)
	return api.Passage{Ship: ship, Draught: 150 + s.next(200), From: from, To: from + 300 + s.next(2000), Back: s.is(2)}
}

func TestP810TripOrProof(t *testing.T) {
	s := &numbers{8101}
	trips, proofs := 0, 0
	for range 300 {
		f, p := s.sea(), s.voyage("s")
		x, proof, e := trip.Earliest(f, p)
		if e == api.ErrNone {
			same(t, trip.CheckClosed(f, p, proof), api.OK, "CheckClosed", f, p)
			same(t, of(trip.Latest(f, p)), refused(api.ErrNone), "Latest", f, p)
			proofs++
			continue
		}
		trips++
		_, e = trip.CheckTrip(f, p, x)
		same(t, e, api.OK, "CheckTrip", f, p, x)
		all := closed()
		for range f.Reaches {
			all.Enter = append(all.Enter, from(p.From, p.To))
		}
		same(t, trip.CheckClosed(f, p, all), api.ErrProof, "CheckClosed beside a trip", f, p)
		p.To = x.Out - 1
		_, proof, e = trip.Earliest(f, p)
		same(t, e, api.ErrNone, "no trip is out before", f, p, x)
		same(t, trip.CheckClosed(f, p, proof), api.OK, "CheckClosed", f, p)
		p.To = x.Out
		again, _, e := trip.Earliest(f, p)
		same(t, e, api.OK, "Earliest", f, p)
		sameTrip(t, again, x, "Earliest, up to its end", f, p)
	}
	same(t, trips > 50 && proofs > 50, true, "there is enough of both", trips, proofs)
}

func TestP810Latest(t *testing.T) {
	s := &numbers{8102}
	for range 200 {
		f, p := s.sea(), s.voyage("s")
		x, e := trip.Latest(f, p)
		l, _ := trip.Departures(f, p)
		same(t, e == api.OK, len(l) > 0, "Latest: the error", f, p)
		if e != api.OK {
			continue
		}
		_, e = trip.CheckTrip(f, p, x)
		same(t, e, api.OK, "CheckTrip", f, p, x)
		same(t, x.Enter[0], l[len(l)-1], "Latest", f, p)
		p.From = x.Enter[0] + 1
		_, _, e = trip.Earliest(f, p)
		same(t, e, api.ErrNone, "no trip enters after", f, p, x)
		for range 20 { // each departure is one, and no other minute
			p.From = s.next(3200)
			p.To = max(p.To, p.From)
			x, _, e := trip.Earliest(f, p)
			i, is := slices.BinarySearch(l, p.From)
			same(t, is && (e != api.OK || x.Enter[0] < l[i]), false, "a trip from a departure on", f, p)
		}
	}
}

// Every accepted trip has its clearance at each minute, for all water levels within the intervals.
func TestP810Clearance(t *testing.T) {
	s := &numbers{8103}
	for range 100 {
		f, p := s.sea(), s.voyage("s")
		x, _, e := trip.Earliest(f, p)
		if e != api.OK {
			continue
		}
		for k, r := range course(f, p) {
			for minute := x.Enter[k]; minute < append(x.Enter, x.Out)[k+1]; minute++ {
				v, e := tide.Level(f.Gauges, r.X, minute)
				same(t, e, api.OK, "the level is known", f, p, x, minute)
				same(t, v.Lo <= v.Hi && v.Lo-r.Level-p.Draught >= r.Clear, true, "there is clearance", f, p, x, minute)
			}
		}
	}
}

// easier changes a fairway or a passage so that nothing is harder.
func (s *numbers) easier(f api.Fairway, p api.Passage) (api.Fairway, api.Passage) {
	f.Gauges, f.Reaches = slices.Clone(f.Gauges), slices.Clone(f.Reaches)
	switch s.next(4) {
	case 0:
		p.Draught = s.next(p.Draught + 1)
	case 1:
		r := &f.Reaches[s.next(len(f.Reaches))]
		r.Clear = s.next(r.Clear + 1)
	case 2:
		f.Taken = f.Taken[:s.next(len(f.Taken)+1)]
	default:
		g := &f.Gauges[s.next(len(f.Gauges))]
		g.Error = s.next(g.Error + 1)
	}
	return f, p
}

func TestP810StillATrip(t *testing.T) {
	s := &numbers{8104}
	for range 300 {
		f, p := s.sea(), s.voyage("s")
		x, _, e := trip.Earliest(f, p)
		if e != api.OK {
			continue
		}
		for range 4 {
			f, p = s.easier(f, p)
			_, e := trip.CheckTrip(f, p, x)
			same(t, e, api.OK, "CheckTrip", f, p, x)
			y, _, e := trip.Earliest(f, p)
			same(t, e, api.OK, "Earliest", f, p)
			same(t, y.Out <= x.Out, true, "no later", f, p, x, y)
		}
	}
}

func TestP810NoMeeting(t *testing.T) {
	s := &numbers{8105}
	found := 0
	for range 200 {
		f := s.sea()
		l := list(s.voyage("a"), s.voyage("b"), s.voyage("c"), s.voyage("d"))
		for k := range l {
			l[k].Draught = 150 + s.next(50)
		}
		trips, e := trip.Timetable(f, l)
		if e != api.OK {
			continue
		}
		found++
		for i := range l {
			for k := range i {
				faults, e := trip.Meets(f, l[i], l[k], trips[i], trips[k])
				same(t, e, api.OK, "Meets", f, l, trips)
				same(t, len(faults), 0, "Meets", f, l, trips)
			}
		}
		order, sum, e := trip.BestOrder(f, l)
		same(t, e, api.OK, "BestOrder", f, l)
		all := 0
		for _, x := range trips {
			all += x.Out
		}
		same(t, len(order) == 4 && sum <= all, true, "the best order", f, l)
	}
	same(t, found > 20, true, "there are timetables", found)
}

// most is the greatest number of rounds from a minute on, whatever trips are taken.
func most(w api.Work, outs, homes []api.Trip, minute int, known map[int]int) int {
	if n, is := known[minute]; is {
		return n
	}
	best := 0
	for _, x := range entering(outs, minute+w.Dredge) {
		for _, y := range entering(homes, x.Out+w.Dump) {
			best = max(best, 1+most(w, outs, homes, y.Out, known))
		}
	}
	known[minute] = best
	return best
}

func TestP810NoMoreRounds(t *testing.T) {
	s := &numbers{8106}
	several := 0
	for range 150 {
		f, w := s.fairway(), s.work()
		w.Until = min(w.Until, w.From+18)
		p, q := ways(w)
		l, e := trip.Rounds(f, w)
		same(t, e, api.OK, "Rounds", f, w)
		same(t, len(l), most(w, everyTrip(f, p), everyTrip(f, q), w.From, map[int]int{}), "Rounds", f, w)
		if len(l) > 1 {
			several++
		}
	}
	same(t, several > 3, true, "there are rounds", several)
}

// wipe overwrites a list as far as its memory goes.
func wipe[T any](l []T) { clear(l[:cap(l)]) }

// roomy is a list with other elements behind its end.
func roomy[T any](l []T, behind T) []T {
	out := append(slices.Clone(l), behind, behind)
	return out[:len(l)]
}

// roomyFairway is the fairway of the examples, all of whose lists are roomy.
func roomyFairway() api.Fairway {
	f := taken(single(), "bar", 55, 56)
	f.Gauges[0].Marks = roomy(f.Gauges[0].Marks, mark(7, 7))
	f.Gauges = roomy(f.Gauges, gauge("z", 7, 7))
	f.Reaches = roomy(f.Reaches, reach("z", 7))
	f.Taken = roomy(f.Taken, closure("z", 7, 7))
	return f
}

// callAll calls everything that returns lists, and overwrites them.
func callAll(f api.Fairway, l []api.Passage, x api.Trip, c api.Closed, w api.Work) {
	for _, p := range l {
		y, _, _ := trip.Earliest(f, p)
		wipe(y.Enter)
		p.To = 60
		_, d, _ := trip.Earliest(f, p)
		for _, minutes := range d.Enter {
			wipe(minutes)
		}
		wipe(d.Enter)
		trip.CheckClosed(f, p, c)
		y, _ = trip.Latest(f, p)
		wipe(y.Enter)
		minutes, _ := trip.Departures(f, p)
		wipe(minutes)
		trip.CheckTrip(f, p, x)
		trip.Deepest(f, p)
		trip.Heaviest(f, p, w.Hopper)
	}
	windows, _ := trip.Open(f, "bar", 350, window(0, 100))
	wipe(windows)
	closures, _ := trip.Occupied(f, l[0], x)
	wipe(closures)
	faults, _ := trip.Meets(f, l[0], l[0], x, x)
	wipe(faults)
	trips, _ := trip.Timetable(f, l)
	for _, y := range trips {
		wipe(y.Enter)
	}
	wipe(trips)
	order, _, _ := trip.BestOrder(f, l)
	wipe(order)
	rounds, _ := trip.Rounds(f, w)
	for _, r := range rounds {
		wipe(r.Out.Enter)
		wipe(r.Home.Enter)
	}
	wipe(rounds)
	text, _ := trip.PrintTrip(x)
	y, _ := trip.ParseTrip(text)
	wipe(y.Enter)
}

// R3: results are overwritten here, and the arguments are what they were before.
func TestP810Memory(t *testing.T) {
	f := roomyFairway()
	l := roomy(list(ship("s", 100), back(ship("t", 100)), ship("u", 100)), ship("z", 7))
	x := sailing(72, roomy([]int{57, 67}, 7)...)
	c := closed(roomy(from(50, 60), 7), roomy([]int{60}, 7))
	c.Enter = roomy(c.Enter, []int{7})
	w := shuttle(0, 20, 5, 1000, 100)
	w.Hopper.Lines = roomy(w.Hopper.Lines, api.LoadLine{Mass: 7, Draught: 7})
	for range 2 { // what an earlier call gave back has no part in a later one
		callAll(f, l, x, c, w)
		_, e := trip.CheckTrip(f, l[0], x)
		same(t, e, api.OK, "CheckTrip")
	}
	want := roomyFairway()
	sameList(t, f.Gauges[0].Marks[:4], want.Gauges[0].Marks[:4], "the marks")
	same(t, f.Gauges[:3][2].Name, "z", "the gauges")
	sameList(t, f.Reaches[:4], want.Reaches[:4], "the reaches")
	sameList(t, f.Taken[:3], want.Taken[:3], "the closures")
	sameList(t, l[:5], list(ship("s", 100), back(ship("t", 100)), ship("u", 100), ship("z", 7), ship("z", 7)), "the passages")
	sameList(t, x.Enter[:4], []int{57, 67, 7, 7}, "the trip")
	sameList(t, c.Enter[0][:12], append(from(50, 60), 7), "the closed list")
	sameList(t, c.Enter[1][:3], []int{60, 7, 7}, "the closed list")
	sameList(t, c.Enter[:3][2], []int{7}, "the closed list")
	sameList(t, w.Hopper.Lines[:3], []api.LoadLine{{Mass: 0, Draught: 150}, {Mass: 1000, Draught: 350}, {Mass: 7, Draught: 7}}, "the lines")
}

// R5: a nil list and an empty one.
func TestP810Empty(t *testing.T) {
	bare, empty := bar(), bar()
	bare.Gauges, bare.Taken = nil, nil
	empty.Gauges, empty.Taken = []api.Gauge{}, []api.Taken{}
	still, quiet := bar(), bar()
	still.Gauges[0].Marks, quiet.Gauges[0].Marks = nil, []api.Mark{}
	none, some := bar(), bar()
	none.Reaches, some.Reaches = nil, []api.Reach{}
	p := loaded(0, 60)
	for k, pair := range [][2]map[string]answer{
		{fairwayCalls(bare), fairwayCalls(empty)}, {fairwayCalls(still), fairwayCalls(quiet)}, {fairwayCalls(none), fairwayCalls(some)},
		{passageCalls(bare, p), passageCalls(empty, p)}, {passageCalls(still, p), passageCalls(quiet, p)},
		{workCalls(bare, shuttle(0, 0, 0, 0, 50)), workCalls(empty, shuttle(0, 0, 0, 0, 50))},
		{hopperCalls(hopper()), hopperCalls(api.Hopper{Name: "h", Hold: 1, Lines: []api.LoadLine{}})},
	} {
		for name, got := range pair[0] {
			same(t, got, pair[1][name], name, k)
		}
	}
	for _, c := range []api.Closed{closed(nil, nil), closed([]int{}, nil), closed([]int{}, []int{})} {
		same(t, trip.CheckClosed(bare, p, c), api.OK, "CheckClosed", c)
		same(t, trip.CheckClosed(bar(), p, c), api.ErrProof, "CheckClosed", c)
	}
	for _, c := range []api.Closed{{}, closed(), closed([][]int{}...)} {
		same(t, trip.CheckClosed(bare, p, c), api.ErrShape, "CheckClosed", c)
	}
}

// R2 and R4: the ends of the range of int everywhere, and results that are the same again.
func TestP810AnyArguments(t *testing.T) {
	ends := []int{math.MinInt, math.MinInt + 1, -1, 0, 1, 100, math.MaxInt - 1, math.MaxInt}
	for _, a := range ends {
		for _, b := range ends {
			for _, c := range ends {
				anyFairways(a, b, c)
				anyTrips(a, b, c)
			}
		}
	}
	first := fairwayCalls(bar())
	for range 5 {
		same(t, maps.Equal(fairwayCalls(bar()), first), true, "the same again")
	}
}

func anyFairways(a, b, c int) {
	for _, change := range []func(f *api.Fairway){
		func(f *api.Fairway) { f.Gauges = []api.Gauge{gauge("g", a, b, mark(b, c), mark(c, a))} },
		func(f *api.Fairway) { f.Reaches[0].X, f.Reaches[0].Level, f.Reaches[0].Clear = a, b, c },
		func(f *api.Fairway) { f.Reaches[0].Minutes, f.Reaches[1].Minutes, f.Reaches[1].Level = a, b, c },
		func(f *api.Fairway) { f.Taken = []api.Taken{closure("bar", a, b), closure("pool", b, c)} },
	} {
		f := bar()
		change(&f)
		fairwayCalls(f)
		passageCalls(f, loaded(0, 60))
		trip.Open(f, "bar", 350, window(0, 100))
		trip.Clearance(f, "bar", 350, 60)
		trip.Rounds(f, shuttle(0, 0, 0, 0, 100))
	}
}

func anyTrips(a, b, c int) {
	f := bar()
	p := passage("s", a, b, c)
	passageCalls(f, p)
	passageCalls(f, back(passage("s", 350, a, b)))
	trip.Timetable(f, list(p, passage("t", b, c, a)))
	trip.BestOrder(f, list(p, passage("t", b, c, a)))
	x := sailing(a, b, c)
	for _, q := range []api.Passage{p, loaded(0, 100), back(loaded(0, 100))} {
		trip.CheckTrip(f, q, x)
		trip.Occupied(f, q, x)
		trip.Meets(f, q, loaded(0, 100), x, sailing(65, 50, 60))
		trip.Meets(f, loaded(0, 100), q, sailing(65, 50, 60), x)
		trip.CheckClosed(f, q, closed([]int{a, b}, []int{c}))
		trip.CheckClosed(f, q, closed([]int{a, b, c}, nil))
	}
	trip.PrintTrip(x)
	trip.Clearance(f, "bar", a, b)
	trip.Open(f, "bar", a, window(b, c))
	trip.Open(f, "bar", 350, window(b, c))
	trip.Heaviest(f, loaded(0, 100), hopper(a, b, b, c))
	hopperCalls(hopper(a, b, b, c))
	hopperCalls(api.Hopper{Name: "h", Hold: a, Lines: hopper(0, b, 1, c).Lines})
	trip.Draught(hopper(0, 200, 1000, 300), a)
	trip.MassAt(hopper(0, 200, 1000, 300), a)
	trip.Rounds(f, shuttle(a, b, c, 1000, 100))
	trip.Rounds(f, shuttle(0, 0, 0, a, b))
	trip.NextRound(f, shuttle(a, 0, 0, c, b))
}
