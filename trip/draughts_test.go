package trip_test

import (
	"math"
	"testing"

	"draghead/api"
	"draghead/trip"
)

func TestP86Deepest(t *testing.T) {
	bare := bar()
	bare.Gauges = nil
	high := bar()
	high.Gauges[0].Marks = []api.Mark{mark(0, highest), mark(100, highest)}
	for k, x := range []struct {
		f    api.Fairway
		p    api.Passage
		want int
	}{
		{bar(), loaded(0, 100), 420},
		{bar(), back(loaded(0, 100)), 430}, // bar from 90 to 99
		{bar(), loaded(0, 65), 350},
		{bar(), loaded(0, 15), 250},
		{taken(bar(), "bar", 80, 84), loaded(0, 100), 420},
		{taken(bar(), "bar", 94, 94), loaded(0, 100), 418},
		{taken(bar(), "bar", 85, 85), loaded(0, 94), 400}, // bar from 75 to 84
		{deep(reach("r", 1)), passage("s", 0, 0, 1), 100},
		{deep(api.Reach{Name: "r", Minutes: 1, Clear: 100}), passage("s", 0, 0, 1), 0},
		{deep(api.Reach{Name: "r", Minutes: 1, Clear: 99}), passage("s", 0, latest-1, latest), 1},
		{high, loaded(0, 100), 5000}, // no more than MaxDraught
	} {
		for _, draught := range []int{0, 350, 5000, -1, 5001, math.MinInt, math.MaxInt} { // it is not looked at
			x.p.Draught = draught
			n, e := trip.Deepest(x.f, x.p)
			same(t, e, api.OK, "Deepest", k, draught)
			same(t, n, x.want, "Deepest", k, draught)
		}
	}
	for k, x := range []struct {
		f api.Fairway
		p api.Passage
	}{
		{bare, loaded(0, 100)}, {bar(), loaded(0, 14)}, {bar(), loaded(50, 50)}, {bar(), loaded(101, 200)},
		{deep(api.Reach{Name: "r", Minutes: 1, Clear: 101}), passage("s", 0, 0, 3000)},
		{taken(bar(), "pool", 0, latest), loaded(0, 100)},
	} {
		for _, draught := range []int{0, -1, 5001} {
			x.p.Draught = draught
			same(t, of(trip.Deepest(x.f, x.p)), refused(api.ErrNone), "Deepest", k)
			same(t, of(trip.Heaviest(x.f, x.p, ladder(2))), refused(api.ErrNone), "Heaviest", k)
		}
	}
}

func TestP86Heaviest(t *testing.T) {
	f, p := bar(), loaded(0, 100) // 420
	for k, x := range []struct {
		h    api.Hopper
		p    api.Passage
		want int
	}{
		{hopper(0, 200, 1000, 300), p, 1000},
		{hopper(0, 320, 1000, 520), p, 500},
		{hopper(0, 320, 1000, 521), p, 497}, // 497 of 1000: 419.897; 498: 420.098
		{hopper(7, 420, 1000, 421), p, 7},
		{hopper(7, 420, 9, 420, 1000, 5000), p, 9},
		{hopper(0, 320, 1000, 520), loaded(0, 65), 150},
		{hopper(0, 320, 1000, 520), back(p), 550},
	} {
		for _, draught := range []int{350, -1, 5001} {
			x.p.Draught = draught
			n, e := trip.Heaviest(f, x.p, x.h)
			same(t, e, api.OK, "Heaviest", k)
			same(t, n, x.want, "Heaviest", k)
		}
	}
	same(t, of(trip.Heaviest(f, p, hopper(0, 421, 1, 421))), refused(api.ErrNone), "Heaviest")
	same(t, of(trip.Heaviest(f, p, hopper(5, 421, 9, 1000))), refused(api.ErrNone), "Heaviest")
	// first the passage, then the hopper
	same(t, of(trip.Heaviest(f, passage("?", 0, 0, 100), hopper())), refused(api.ErrName), "Heaviest")
	same(t, of(trip.Heaviest(f, loaded(1, 0), hopper())), refused(api.ErrRange), "Heaviest")
	same(t, of(trip.Heaviest(f, loaded(0, 0), hopper())), refused(api.ErrShape), "Heaviest")
}

func TestP86Oracle(t *testing.T) {
	s := &numbers{86}
	found := 0
	for range 300 {
		f, h := s.fairway(), s.hopper()
		p := s.passage("s")
		q := p
		deepest, heaviest := -1, -1
		for q.Draught = 0; q.Draught < 60; q.Draught++ {
			if len(everyTrip(f, q)) > 0 {
				deepest = q.Draught
			}
		}
		for mass := h.Lines[0].Mass; mass <= h.Lines[len(h.Lines)-1].Mass; mass++ {
			if lineOf(h, mass) <= deepest {
				heaviest = mass
			}
		}
		n, e := trip.Deepest(f, p)
		same(t, e == api.OK, deepest >= 0, "Deepest: the error", f, p)
		same(t, n, max(0, deepest), "Deepest", f, p)
		n, e = trip.Heaviest(f, p, h)
		same(t, e == api.OK, heaviest >= 0, "Heaviest: the error", f, p, h)
		same(t, n, max(0, heaviest), "Heaviest", f, p, h)
		if heaviest > h.Lines[0].Mass {
			found++
		}
	}
	same(t, found > 30, true, "there are loads", found)
}
