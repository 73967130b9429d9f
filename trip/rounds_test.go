package trip_test

import (
	"math"
	"slices"
	"testing"

	"draghead/api"
	"draghead/trip"
)

// shuttle is the work of the hopper of the tests, empty with 150 and loaded with 350, on the bar.
func shuttle(from, dredge, dump, mass, until int) api.Work {
	return api.Work{Hopper: hopper(0, 150, 1000, 350), From: from, Dredge: dredge, Dump: dump, Mass: mass, Until: until}
}

// round is a round of the hopper h.
func round(out api.Trip, dump int, home api.Trip) api.Round {
	return api.Round{Out: with("h", out), Dump: dump, Home: with("h", home)}
}

func TestP88Rounds(t *testing.T) {
	quick := deep(reach("a", 1), reach("b", 1))
	for k, x := range []struct {
		f    api.Fairway
		w    api.Work
		want []api.Round
	}{
		{bar(), shuttle(0, 20, 5, 1000, 100), []api.Round{round(sailing(65, 50, 60), 70, sailing(85, 70, 75))}},
		{bar(), shuttle(0, 20, 5, 1000, 85), []api.Round{round(sailing(65, 50, 60), 70, sailing(85, 70, 75))}},
		{bar(), shuttle(0, 20, 5, 1000, 84), nil},
		{bar(), shuttle(0, 50, 20, 1000, 100), []api.Round{round(sailing(65, 50, 60), 85, sailing(100, 85, 90))}},
		{bar(), shuttle(0, 50, 21, 1000, 100), nil},
		{bar(), shuttle(0, 51, 20, 1000, 100), nil},
		{bar(), shuttle(0, 0, 0, 0, 100), []api.Round{
			round(sailing(15, 0, 10), 15, sailing(30, 15, 20)), round(sailing(45, 30, 40), 45, sailing(60, 45, 50)), round(sailing(75, 60, 70), 75, sailing(90, 75, 80)),
		}},
		{bar(), shuttle(0, 0, 0, 500, 100), []api.Round{ // drawing 250 it can sail from 0 on
			round(sailing(15, 0, 10), 15, sailing(30, 15, 20)), round(sailing(45, 30, 40), 45, sailing(60, 45, 50)), round(sailing(75, 60, 70), 75, sailing(90, 75, 80)),
		}},
		{bar(), shuttle(0, 0, 0, 501, 35), []api.Round{round(sailing(16, 1, 11), 16, sailing(31, 16, 21))}},
		{taken(bar(), "pool", 70, 74), shuttle(0, 20, 5, 1000, 100), []api.Round{round(sailing(65, 50, 60), 70, sailing(90, 75, 80))}},
		// ships do not hinder themselves
		{single(), shuttle(50, 0, 0, 1000, 80), []api.Round{round(sailing(65, 50, 60), 65, sailing(80, 65, 70))}},
		{quick, api.Work{Hopper: hopper(0, 0, 1, 100), Mass: 1, From: latest - 9, Until: latest}, []api.Round{
			round(sailing(latest-7, latest-9, latest-8), latest-7, sailing(latest-5, latest-7, latest-6)),
			round(sailing(latest-3, latest-5, latest-4), latest-3, sailing(latest-1, latest-3, latest-2)),
		}},
		{quick, api.Work{Hopper: hopper(0, 0, 1, 101), Mass: 1, Until: 9}, nil},
		{quick, api.Work{Hopper: hopper(0, 0, 1, 101), Mass: 0, From: 2, Until: 6, Dump: 0}, []api.Round{round(sailing(4, 2, 3), 4, sailing(6, 4, 5))}},
		{quick, api.Work{Hopper: hopper(0, 0, 1, 1), Mass: 1, Until: 4, Dredge: 5}, nil},
		{quick, api.Work{Hopper: hopper(0, 0, 1, 1), Mass: 1, Until: 4, Dredge: 4}, nil},
		{quick, api.Work{Hopper: hopper(0, 0, 1, 1), Mass: 1, From: latest, Until: latest, Dredge: 1000, Dump: 1000}, nil},
		{quick, api.Work{Hopper: hopper(0, 0, 1, 1), Mass: 1, Until: 4, Dump: 1000}, nil},
		{quick, api.Work{Hopper: hopper(0, 0, 1, 1), Mass: 1, From: 3000, Until: 3000}, nil},
	} {
		l, e := trip.Rounds(x.f, x.w)
		same(t, e, api.OK, "Rounds", k)
		sameRounds(t, l, x.want, "Rounds", k)
		r, e := trip.NextRound(x.f, x.w)
		if len(x.want) == 0 {
			same(t, of(r, e), refused(api.ErrNone), "NextRound", k)
		} else {
			same(t, e, api.OK, "NextRound", k)
			sameRounds(t, []api.Round{r}, x.want[:1], "NextRound", k)
		}
	}
}

func TestP88Errors(t *testing.T) {
	for k, x := range []struct {
		want api.Errno
		w    api.Work
	}{
		{api.ErrShape, api.Work{Hopper: hopper(), From: -1}}, // before ErrRange
		{api.ErrRange, shuttle(-1, 20, 5, 1000, 100)},
		{api.ErrRange, shuttle(101, 20, 5, 1000, 100)},
		{api.ErrRange, shuttle(0, 20, 5, 1000, -1)},
		{api.ErrRange, shuttle(0, 20, 5, 1000, 3001)},
		{api.ErrRange, shuttle(latest-5, 20, 5, 1000, latest+1)},
		{api.ErrRange, shuttle(latest+1, 20, 5, 1000, latest+1)},
		{api.ErrRange, shuttle(math.MinInt, 20, 5, 1000, math.MaxInt)},
		{api.ErrRange, shuttle(0, -1, 5, 1000, 100)},
		{api.ErrRange, shuttle(0, 1001, 5, 1000, 100)},
		{api.ErrRange, shuttle(0, 20, -1, 1000, 100)},
		{api.ErrRange, shuttle(0, 20, 1001, 1000, 100)},
		{api.ErrRange, shuttle(0, math.MaxInt, math.MinInt, 1000, 100)},
		{api.ErrRange, shuttle(0, 20, 5, -1, 100)},
		{api.ErrRange, shuttle(0, 20, 5, 1001, 100)},
		{api.ErrRange, shuttle(0, 20, 5, math.MinInt, 100)},
		{api.ErrRange, shuttle(50, 1000, 5, 1001, 50)}, // before ErrNone
	} {
		allRefused(t, workCalls(bar(), x.w), x.want, k)
	}
	for _, w := range []api.Work{shuttle(0, 1000, 1000, 1000, 3000), shuttle(latest-3000, 0, 0, 0, latest), shuttle(latest, 0, 0, 0, latest)} {
		l, e := trip.Rounds(bar(), w)
		same(t, e, api.OK, "Rounds", w)
		same(t, len(l), 0, "Rounds", w)
	}
}

// work is work with a small hopper.
func (s *numbers) work() api.Work {
	h := s.hopper()
	mass := h.Lines[0].Mass + s.next(h.Lines[len(h.Lines)-1].Mass-h.Lines[0].Mass+1)
	from := s.next(5)
	return api.Work{Hopper: h, From: from, Dredge: s.next(4), Dump: s.next(3), Mass: mass, Until: from + s.next(30)}
}

// ways is the passages out and home of work, for all of its time.
func ways(w api.Work) (api.Passage, api.Passage) {
	out := passage("h", lineOf(w.Hopper, w.Mass), w.From, w.Until)
	return out, back(passage("h", w.Hopper.Lines[0].Draught, w.From, w.Until))
}

// entering is the trips that enter not before a minute.
func entering(l []api.Trip, minute int) []api.Trip {
	return slices.DeleteFunc(slices.Clone(l), func(x api.Trip) bool { return x.Enter[0] < minute })
}

// roundsOf is one round after another.
func roundsOf(f api.Fairway, w api.Work) []api.Round {
	p, q := ways(w)
	outs, homes := everyTrip(f, p), everyTrip(f, q)
	var out []api.Round
	for minute := w.From; ; {
		first := entering(outs, minute+w.Dredge)
		if len(first) == 0 {
			return out
		}
		x := earliestOf(first)
		second := entering(homes, x.Out+w.Dump)
		if len(second) == 0 {
			return out
		}
		y := earliestOf(second)
		out = append(out, api.Round{Out: x, Dump: x.Out + w.Dump, Home: y})
		minute = y.Out
	}
}

func TestP88Oracle(t *testing.T) {
	s := &numbers{88}
	several := 0
	for range 1500 {
		f, w := s.fairway(), s.work()
		want := roundsOf(f, w)
		l, e := trip.Rounds(f, w)
		same(t, e, api.OK, "Rounds", f, w)
		sameRounds(t, l, want, "Rounds", f, w)
		r, e := trip.NextRound(f, w)
		same(t, e == api.OK, len(want) > 0, "NextRound: the error", f, w)
		if len(want) > 0 {
			sameRounds(t, []api.Round{r}, want[:1], "NextRound", f, w)
		} else {
			same(t, of(r, e), refused(api.ErrNone), "NextRound", f, w)
		}
		if len(want) > 1 {
			several++
		}
	}
	same(t, several > 50, true, "there are rounds", several)
}
