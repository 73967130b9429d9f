package channel_test

import (
	"math"
	"testing"

	"draghead/api"
	"draghead/channel"
)

// atPlace is a place with what is told of it; level is Unknown if there is no design level.
type atPlace struct {
	p                       api.Point
	chainage, offset, level int
}

func checkPlaces(t *testing.T, c api.Channel, l []atPlace) {
	t.Helper()
	for _, x := range l {
		s, o, e := channel.Along(c, x.p)
		same(t, e, api.OK, "Along", c.Axis, x)
		same(t, s, x.chainage, "Along", c.Axis, x)
		same(t, o, x.offset, "Along: the offset", c.Axis, x)
		checkDesign(t, c, x.p, x.level)
	}
}

func checkDesign(t *testing.T, c api.Channel, p api.Point, level int) {
	t.Helper()
	n, e := channel.Design(c, p)
	if level == u {
		same(t, of(n, e), refused(api.ErrNone), "Design", c.Axis, p)
		return
	}
	same(t, e, api.OK, "Design", c.Axis, p)
	same(t, n, level, "Design", c.Axis, p)
}

func checkNowhere(t *testing.T, c api.Channel, l ...api.Point) {
	t.Helper()
	for _, p := range l {
		same(t, ofAlong(channel.Along(c, p)), refused(api.ErrNone), "Along", c.Axis, p)
		same(t, of(channel.Design(c, p)), refused(api.ErrNone), "Design", c.Axis, p)
	}
}

func TestP52Straight(t *testing.T) {
	checkPlaces(t, example(), []atPlace{
		{at(2500, -600), 2500, 600, -1000},
		{at(2500, 1400), 2500, 1400, -900},
		{at(0, 0), 0, 0, -1000},
		{at(10000, 0), 10000, 0, -1000},
		{at(0, 1000), 0, 1000, -1000}, // the last one on the bottom
		{at(0, -1001), 0, 1001, -1000},
		{at(0, 1003), 0, 1003, -1000},
		{at(0, -1004), 0, 1004, -999},
		{at(10000, 85003), 10000, 85003, highest},
		{at(10000, 85004), 10000, 85004, u}, // held, and without a design level
		{at(9999, -1000000), 9999, 1000000, u},
	})
	checkNowhere(t, example(), at(-1, 0), at(10001, 0), at(-1, 5000), at(10001, -5000), at(-farthest, farthest))
	vertical := straight(axis(0, 0, 1000, -1000, 0), axis(10000, 0, 1000, -1000, 4))
	checkPlaces(t, vertical, []atPlace{{at(5, 1000), 5, 1000, -1000}, {at(5, 1001), 5, 1001, u}, {at(10000, 1001), 10000, 1001, u}})
	high := straight(axis(0, 0, 1, highest, 1), axis(10000, 0, 1, highest, 1))
	checkPlaces(t, high, []atPlace{{at(5, 1), 5, 1, highest}, {at(5, 2), 5, 2, u}})
	gentle := straight(axis(0, 0, 1, 19999, 1000), axis(10000, 0, 1, 19999, 1000))
	checkPlaces(t, gentle, []atPlace{{at(5, 1000), 5, 1000, 19999}, {at(5, 1001), 5, 1001, highest}, {at(5, 2000), 5, 2000, highest}, {at(5, 2001), 5, 2001, u}})
}

// Half width and bottom between two axis points are rounded down; the run is that of the first one.
func TestP52Between(t *testing.T) {
	checkPlaces(t, bent(), []atPlace{
		{at(0, 300), 0, 300, -800},
		{at(1, 0), 1, 0, -801},
		{at(20, 0), 20, 0, -801},
		{at(21, 0), 21, 0, -802},
		{at(19, -300), 19, 300, -801}, // the half width is 300.95
		{at(19, -301), 19, 301, u},
		{at(20, -301), 20, 301, -801},
		{at(2000, 400), 2000, 400, -900},
		{at(2000, 401), 2000, 401, -250}, // the slope of the second leg
		{at(2000, -401), 2000, 401, u},
	})
	rising := straight(axis(0, 0, 10, -7, 3), axis(3, 0, 13, 1, 0), axis(3, 5, 1, 1, 0))
	checkPlaces(t, rising, []atPlace{
		{at(0, -10), 0, 10, -7}, {at(1, -11), 1, 11, -5}, {at(2, -12), 2, 12, -2}, {at(3, -13), 3, 13, 1},
		{at(1, -14), 1, 14, -4}, {at(2, -15), 2, 15, -1}, {at(3, -16), 3, 16, 2},
	})
	// The greatest products.
	const far = farthest
	large := straight(axis(-far, -far, 100000, -highest+30, 0), axis(far, far, 100000, highest, 0))
	checkPlaces(t, large, []atPlace{
		{at(-far, -far), 0, 0, -highest + 30}, {at(far, far), 2828426, 0, highest}, {at(0, 0), 1414213, 0, 15},
		{at(70710, -70710), 1414213, 99999, 15}, {at(70711, -70711), 1414213, 100000, 15}, {at(70712, -70712), 1414213, 100001, u},
	})
}

func TestP52Bends(t *testing.T) {
	checkPlaces(t, bent(), []atPlace{
		{at(4000, 0), 4000, 0, -1000},
		{at(4001, 0), 4000, 1, -1000}, // the second leg holds it
		{at(4000, -1), 4000, 1, -1000},
		{at(4001, -1), 4000, 2, -1000}, // the bend, with the span
		{at(4300, -400), 4000, 500, -1000},
		{at(4300, -401), 4000, 501, -1000},
		{at(4300, -402), 4000, 502, -999},
		{at(3600, 600), 3600, 600, -1000}, // both legs hold it: the second one has the design level
		{at(3999, 3000), 3999, 3000, -1000},
		{at(4001, 3000), 7000, 1, -1000},
	})
	checkPlaces(t, bent(), []atPlace{{at(4000, 3001), 4000, 3001, u}})
	checkNowhere(t, bent(), at(4001, 3001), at(5000, 3001), at(-1, -1), at(-1, 3001))
	// The bends at (1000, 0) and (1100, 100): the first one tells the chainage, the deeper one has the design level.
	steps := straight(axis(0, 0, 10, -100, 10), axis(1000, 0, 10, -500, 10), axis(1000, 100, 10, -700, 10), axis(1100, 100, 10, -900, 10), axis(1100, 500, 10, -950, 0))
	checkPlaces(t, steps, []atPlace{
		{at(1200, -75), 1000, 214, -881},
		{at(1050, -75), 1150, 175, -784}, // a leg tells the chainage although a bend before it holds the place
		{at(999, 501), 999, 501, -661},   // a leg tells the chainage, the bend behind it has the design level
	})
	steps.Axis[1].Level = -900
	checkPlaces(t, steps, []atPlace{{at(1200, -75), 1000, 214, -881}, {at(1050, -75), 1150, 175, -892}, {at(1051, -76), 1151, 176, -892}})
	// There and back: behind the end only the bend holds a place.
	back := straight(axis(0, 0, 10, -100, 10), axis(100, 0, 10, -200, 10), axis(0, 0, 10, -300, 10))
	checkPlaces(t, back, []atPlace{{at(103, 4), 100, 5, -200}, {at(0, 0), 0, 0, -300}, {at(100, 0), 100, 0, -200}, {at(70, 20), 70, 20, -229}})
	checkNowhere(t, back, at(-1, 0))
	// Straight on: the bend holds nothing.
	on := straight(axis(0, 0, 10, -100, 10), axis(100, 0, 10, -200, 10), axis(200, 0, 10, -300, 10))
	checkPlaces(t, on, []atPlace{{at(100, 50), 100, 50, -196}, {at(101, -50), 101, 50, -197}})
	checkNowhere(t, on, at(201, 0))
	// There are no bends at the ends.
	checkNowhere(t, bent(), at(-3, -4), at(4003, 3004))
}

// Spans are rounded up, and what is along a leg is rounded down.
func TestP52Chainage(t *testing.T) {
	c := straight(axis(0, 0, 10, -100, 1), axis(1, 1, 10, -100, 1), axis(101, 1, 10, -100, 1))
	checkPlaces(t, c, []atPlace{{at(1, 1), 1, 0, -100}, {at(1, 0), 0, 0, -100}, {at(51, 1), 52, 0, -100}, {at(101, -9), 102, 10, -100}})
	knot := straight(axis(0, 0, 10, -100, 1), axis(5, 0, 10, -100, 1), axis(0, 0, 10, -200, 1), axis(0, 5, 10, -100, 1))
	checkPlaces(t, knot, []atPlace{{at(2, 3), 2, 3, -160}, {at(-2, 3), 13, 2, -140}})
}

func TestP52Errors(t *testing.T) {
	const far = farthest
	for _, p := range []api.Point{at(far+1, 0), at(-far-1, 0), at(0, far+1), at(0, -far-1), at(math.MaxInt, 0), at(0, math.MinInt), at(math.MinInt, math.MaxInt)} {
		same(t, ofAlong(channel.Along(example(), p)), refused(api.ErrRange), "Along", p)
		same(t, of(channel.Design(example(), p)), refused(api.ErrRange), "Design", p)
	}
	checkNowhere(t, example(), at(far, far), at(-far, -far))
}

func TestP52Computed(t *testing.T) {
	s := &numbers{51}
	legs, several, slopes := 0, 0, 0
	for _, most := range []int{12, 300, 3000, farthest} {
		for range 2500 {
			c, p := s.channel(most), at(s.around(most), s.around(most))
			l := hold(c, p)
			if len(l) == 0 {
				checkNowhere(t, c, p)
				continue
			}
			legs++
			if len(l) > 1 {
				several++
			}
			level, isBottom := design(c, p)
			if level != u && !isBottom {
				slopes++
			}
			checkPlaces(t, c, []atPlace{{p, l[0].chainage, l[0].offset, level}})
		}
	}
	same(t, legs > 3000 && several > 1000 && slopes > 500, true, "all kinds of places are looked at", legs, several, slopes)
}

func TestP53Section(t *testing.T) {
	for _, x := range []struct {
		c    api.Channel
		q    api.Station
		want []int
	}{
		{example(), api.Station{Chainage: 5000, Step: 500, Count: 4}, []int{-1000, -1000, -1000, -875, -750}},
		{example(), api.Station{Chainage: 0, Step: 1, Count: 0}, []int{-1000}},
		{example(), api.Station{Chainage: 10000, Step: 1004, Count: 1}, []int{-1000, -999}},
		{example(), api.Station{Chainage: 7, Step: 85003, Count: 2}, []int{-1000, highest, u}},
		{example(), api.Station{Chainage: 7, Step: 100000, Count: 1}, []int{-1000, u}},
		{bent(), api.Station{Chainage: 0, Step: 300, Count: 2}, []int{-800, -800, u}},
		{bent(), api.Station{Chainage: 19, Step: 301, Count: 1}, []int{-801, u}},
		{bent(), api.Station{Chainage: 20, Step: 301, Count: 1}, []int{-801, -801}},
		{bent(), api.Station{Chainage: 21, Step: 301, Count: 1}, []int{-802, -802}},
		{bent(), api.Station{Chainage: 4000, Step: 500, Count: 2}, []int{-1000, -1000, u}}, // of the first leg
		{bent(), api.Station{Chainage: 4001, Step: 500, Count: 2}, []int{-1000, -1000, -750}},
		{bent(), api.Station{Chainage: 7000, Step: 503, Count: 1}, []int{-1000, -999}},
	} {
		got, e := channel.Section(x.c, x.q)
		same(t, e, api.OK, "Section", x)
		sameList(t, got, x.want, "Section", x)
	}
	got, e := channel.Section(example(), api.Station{Chainage: 10000, Step: 100000, Count: 100})
	same(t, e, api.OK, "the widest section")
	same(t, len(got), 101, "the widest section")
	same(t, got[0] == -1000 && got[1] == u && got[100] == u, true, "the widest section", got)
	// The span of the first leg is 2, although it is shorter.
	c := straight(axis(0, 0, 10, -100, 1), axis(1, 1, 21, -201, 2), axis(101, 1, 21, -201, 3))
	for chainage, want := range [][]int{{-100, -90}, {-151, -146}, {-201, -201}, {-201, -201}, {-201, -201}} {
		got, e := channel.Section(c, api.Station{Chainage: chainage, Step: 20, Count: 1})
		same(t, e, api.OK, "Section", chainage)
		sameList(t, got, want, "Section", chainage)
	}
}

func TestP53SectionErrors(t *testing.T) {
	for _, q := range []api.Station{
		{Chainage: -1, Step: 1}, {Chainage: 10001, Step: 1}, {Chainage: math.MaxInt, Step: 1}, {Chainage: math.MinInt, Step: 1},
		{Step: 0}, {Step: -1}, {Step: 100001}, {Step: math.MinInt}, {Step: math.MaxInt, Count: 100},
		{Step: 1, Count: -1}, {Step: 1, Count: 101}, {Step: 1, Count: math.MaxInt}, {Step: 1, Count: math.MinInt},
	} {
		same(t, of(channel.Section(example(), q)), refused(api.ErrRange), "Section", q)
	}
}

func TestP53SectionComputed(t *testing.T) {
	s := &numbers{52}
	for range 3000 {
		c := s.channel([]int{12, 300, 3000, farthest}[s.next(4)])
		length, _ := channel.Length(c)
		q := api.Station{Chainage: s.next(length + 1), Step: 1 + s.next(900), Count: s.next(5)}
		k, start := 1, 0
		for ; ; k++ {
			only, _ := channel.Length(straight(c.Axis[k-1], c.Axis[k]))
			if q.Chainage <= start+only {
				break
			}
			start += only
		}
		span, _ := channel.Length(straight(c.Axis[k-1], c.Axis[k]))
		// The same profile is that of a leg along the x axis whose squared length is that of its span.
		leg := straight(c.Axis[k-1], c.Axis[k])
		leg.Axis[0].X, leg.Axis[0].Y, leg.Axis[1].X, leg.Axis[1].Y = 0, 0, min(span, farthest), 0
		if span > farthest {
			continue
		}
		var want []int
		for i := range q.Count + 1 {
			want = append(want, hold(leg, at(q.Chainage-start, i*q.Step))[0].level())
		}
		got, e := channel.Section(c, q)
		same(t, e, api.OK, "Section", c.Axis, q)
		sameList(t, got, want, "Section", c.Axis, q)
	}
}
