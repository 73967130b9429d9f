package sounding_test

import (
	"math"
	"testing"

	"draghead/api"
	"draghead/sounding"
	"draghead/tide"
)

// pier is a gauge whose level is from 95 to 105 in the minutes 0 to 20.
func pier() []api.Gauge {
	return []api.Gauge{{Name: "pier", Error: 5, Marks: []api.Mark{{Minute: 0, Level: 100}, {Minute: 20, Level: 100}}}}
}

// slope is two gauges between which the level changes with the place, and that end at different minutes.
func slope() []api.Gauge {
	return []api.Gauge{
		{Name: "in", X: 0, Error: 2, Marks: []api.Mark{{Minute: 0, Level: 0}, {Minute: 10, Level: 25}}},
		{Name: "out", X: 1000, Marks: []api.Mark{{Minute: 0, Level: 100}, {Minute: 15, Level: 100}}},
	}
}

// seven is the raw sounding of the chapter's example.
func seven() api.Raw {
	return api.Raw{Number: 7, Minute: 10, Depth: 500, Draught: 40, Error: 10}
}

// greatest and least are the raw soundings at the ends of what is valid.
func greatest() api.Raw {
	return api.Raw{Number: api.MaxNumber, Minute: api.MaxMinute, X: api.MaxPlace, Y: api.MaxPlace, Depth: api.MaxLevel, Draught: api.MaxLevel, Error: 1000}
}

func least() api.Raw {
	return api.Raw{Number: 1, X: -api.MaxPlace, Y: -api.MaxPlace}
}

// invalidRaws is raw soundings of which one field is not in its range.
func invalidRaws() []api.Raw {
	var out []api.Raw
	for _, by := range []int{1, math.MaxInt - 2*api.MaxPlace} {
		for i := range 7 {
			high, low := greatest(), least()
			*field(&high, i) += by
			*field(&low, i) -= by
			out = append(out, high, low)
		}
	}
	return append(out, api.Raw{}, api.Raw{Number: math.MinInt})
}

// field is one of the fields of a raw sounding.
func field(r *api.Raw, i int) *int {
	return [...]*int{&r.Number, &r.Minute, &r.X, &r.Y, &r.Depth, &r.Draught, &r.Error}[i]
}

// raws is n raw soundings with the numbers from 1 on.
func raws(n int) []api.Raw {
	var out []api.Raw
	for i := range n {
		out = append(out, api.Raw{Number: i + 1, Minute: i % 30, Depth: i})
	}
	return out
}

func TestP31CheckRaws(t *testing.T) {
	bad := api.Raw{Number: 1, Depth: -1}
	for _, c := range []struct {
		l    []api.Raw
		want api.Errno
	}{
		{nil, api.OK},
		{[]api.Raw{}, api.OK},
		{[]api.Raw{seven()}, api.OK},
		{[]api.Raw{greatest(), least()}, api.OK},
		{raws(500), api.OK},
		{raws(501), api.ErrLarge},
		{make([]api.Raw, 501), api.ErrLarge}, // before ErrRange
		{make([]api.Raw, 500), api.ErrRange},
		{[]api.Raw{seven(), seven()}, api.ErrExists},
		{[]api.Raw{seven(), {Number: 7}}, api.ErrExists}, // equal numbers are enough
		{[]api.Raw{seven(), least(), seven()}, api.ErrExists},
		{[]api.Raw{least(), bad}, api.ErrRange}, // before ErrExists
		{[]api.Raw{bad, least()}, api.ErrRange},
		{[]api.Raw{seven(), seven(), bad}, api.ErrExists}, // the second one comes before the third one
		{append(raws(499), raws(1)...), api.ErrExists},
		{append(raws(499), seven()), api.ErrExists},
	} {
		same(t, sounding.CheckRaws(c.l), c.want, "CheckRaws", c.l)
	}
	for _, r := range invalidRaws() {
		same(t, sounding.CheckRaws([]api.Raw{r}), api.ErrRange, "CheckRaws", r)
		same(t, sounding.CheckRaws([]api.Raw{seven(), r}), api.ErrRange, "CheckRaws", r)
	}
}

func TestP31Reduce(t *testing.T) {
	for _, c := range []struct {
		g    []api.Gauge
		r    api.Raw
		want api.Sounding
	}{
		{pier(), seven(), at(7, 0, 0, -455, -425)},
		{pier(), api.Raw{Number: 3, Minute: 20, X: 5, Y: -6}, at(3, 5, -6, 95, 105)},
		{pier(), api.Raw{Number: 3, Depth: 1}, at(3, 0, 0, 94, 104)},
		{pier(), api.Raw{Number: 3, Draught: 2}, at(3, 0, 0, 93, 103)},
		{pier(), api.Raw{Number: 3, Error: 4}, at(3, 0, 0, 91, 109)},
		{pier(), api.Raw{Number: api.MaxNumber, X: api.MaxPlace, Y: api.MaxPlace, Depth: api.MaxLevel, Draught: api.MaxLevel, Error: 1000}, at(api.MaxNumber, api.MaxPlace, api.MaxPlace, -40905, -38895)},
		{slope(), api.Raw{Number: 1, Minute: 10, X: 250, Depth: 100}, at(1, 250, 0, -58, -54)},             // 42 to 46: the place is X
		{slope(), api.Raw{Number: 1, Minute: 10, X: 250, Y: 1000, Depth: 100}, at(1, 250, 1000, -58, -54)}, // and not Y
		{slope(), api.Raw{Number: 1, Minute: 3, Depth: 100}, at(1, 0, 0, -95, -90)},
		{slope(), api.Raw{Number: 1, Minute: 15, X: 1000, Depth: 100}, at(1, 1000, 0, 0, 0)},
		{slope(), api.Raw{Number: 1, Minute: 15, X: 5000, Depth: 100, Draught: 7, Error: 1}, at(1, 5000, 0, -8, -6)},
	} {
		got, e := sounding.Reduce(c.g, c.r)
		same(t, e, api.OK, "Reduce", c.r)
		same(t, got, c.want, "Reduce", c.r)
	}
}

func TestP31ReduceErrors(t *testing.T) {
	late := seven()
	late.Minute = 21
	twice := append(pier(), pier()...)
	for _, c := range []struct {
		g    []api.Gauge
		r    api.Raw
		want api.Errno
	}{
		{pier(), late, api.ErrNone},
		{nil, seven(), api.ErrNone},
		{[]api.Gauge{}, greatest(), api.ErrNone},
		{slope(), api.Raw{Number: 1, Minute: 11, X: 999}, api.ErrNone},
		{slope(), api.Raw{Number: 1, Minute: 16, X: 1000}, api.ErrNone},
		{[]api.Gauge{{}}, seven(), api.ErrName},
		{twice, seven(), api.ErrExists},
		{twice, late, api.ErrExists},
		{make([]api.Gauge, 7), seven(), api.ErrLarge},
		{[]api.Gauge{{Name: "g", Error: -1}}, seven(), api.ErrRange},
		{[]api.Gauge{{Name: "b", X: 1}, {Name: "a"}}, seven(), api.ErrOrder},
	} {
		same(t, ofSounding(sounding.Reduce(c.g, c.r)), refused(c.want), "Reduce", c.g, c.r)
	}
	for _, r := range invalidRaws() {
		for _, g := range [][]api.Gauge{nil, pier(), {{}}, make([]api.Gauge, 7)} {
			same(t, ofSounding(sounding.Reduce(g, r)), refused(api.ErrRange), "Reduce", g, r) // before the error of the gauges
		}
	}
}

func TestP31ReduceAll(t *testing.T) {
	early, late, last := seven(), seven(), seven()
	early.Number, early.Minute = 9, 0
	late.Number, late.Minute = 8, 21
	last.Number, last.Minute = 2, 1000
	for _, c := range []struct {
		g       []api.Gauge
		l       []api.Raw
		want    []api.Sounding
		missing []int
	}{
		{pier(), nil, nil, nil},
		{nil, nil, nil, nil},
		{pier(), []api.Raw{late, seven()}, []api.Sounding{at(7, 0, 0, -455, -425)}, []int{8}},
		{pier(), []api.Raw{early, late, seven(), last}, []api.Sounding{at(9, 0, 0, -455, -425), at(7, 0, 0, -455, -425)}, []int{8, 2}},
		{pier(), []api.Raw{last, late}, nil, []int{2, 8}},
		{nil, []api.Raw{seven(), early}, nil, []int{7, 9}},
	} {
		got, missing, e := sounding.ReduceAll(c.g, c.l)
		same(t, e, api.OK, "ReduceAll", c.l)
		sameList(t, got, c.want, "ReduceAll", c.l)
		sameList(t, missing, c.missing, "ReduceAll", c.l)
	}
}

func TestP31ReduceAllErrors(t *testing.T) {
	late := seven()
	late.Minute = 21
	twice := append(pier(), pier()...)
	for _, c := range []struct {
		g    []api.Gauge
		l    []api.Raw
		want api.Errno
	}{
		{pier(), raws(501), api.ErrLarge},
		{pier(), []api.Raw{seven(), {}}, api.ErrRange},
		{pier(), []api.Raw{late, seven()}, api.ErrExists},
		{twice, nil, api.ErrExists},
		{twice, []api.Raw{late}, api.ErrExists},
		{[]api.Gauge{{}}, []api.Raw{seven()}, api.ErrName},
		{make([]api.Gauge, 7), []api.Raw{seven()}, api.ErrLarge},
		{make([]api.Gauge, 7), []api.Raw{seven(), {}}, api.ErrRange}, // the raw soundings come first
		{[]api.Gauge{{}}, []api.Raw{seven(), seven()}, api.ErrExists},
		{[]api.Gauge{{}}, raws(501), api.ErrLarge},
	} {
		same(t, ofReduced(sounding.ReduceAll(c.g, c.l)), refused(c.want), "ReduceAll", c.g, c.l)
	}
}

func TestP31ReduceAllComputed(t *testing.T) {
	s := &numbers{31}
	for range 300 {
		g := slope()
		var l []api.Raw
		for _, n := range s.distinct(s.next(9)) {
			l = append(l, api.Raw{Number: n, Minute: s.next(20), X: s.around(1500), Y: s.around(9), Depth: s.next(900), Draught: s.next(99), Error: s.next(9)})
		}
		var want []api.Sounding
		var missing []int
		for _, r := range l {
			water, e := tide.Level(g, r.X, r.Minute)
			if e == api.ErrNone {
				missing = append(missing, r.Number)
				continue
			}
			want = append(want, at(r.Number, r.X, r.Y, water.Lo-r.Draught-r.Depth-r.Error, water.Hi-r.Draught-r.Depth+r.Error))
		}
		got, others, e := sounding.ReduceAll(g, l)
		same(t, e, api.OK, "ReduceAll", l)
		sameList(t, got, want, "ReduceAll", l)
		sameList(t, others, missing, "ReduceAll", l)
	}
	got, others, e := sounding.ReduceAll(pier(), raws(500))
	same(t, e, api.OK, "ReduceAll of 500")
	same(t, len(got)+len(others), 500, "ReduceAll of 500")
}
