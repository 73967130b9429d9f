package tide_test

import (
	"math"
	"testing"

	"draghead/api"
	"draghead/tide"
)

// reading is a level, or the error in its place.
type reading struct {
	v api.Interval
	e api.Errno
}

func known(lo, hi int) reading { return reading{api.Interval{Lo: lo, Hi: hi}, api.OK} }

func failed(e api.Errno) reading { return reading{api.Interval{}, e} }

func atOf(g api.Gauge, minute int) reading {
	v, e := tide.At(g, minute)
	return reading{v, e}
}

func placed(l []api.Gauge, x, minute int) reading {
	v, e := tide.Level(l, x, minute)
	return reading{v, e}
}

// expected is the reading that the test's own computation gives.
func expected(v api.Interval, is bool) reading {
	if !is {
		return failed(api.ErrNone)
	}
	return reading{v, api.OK}
}

func TestP22At(t *testing.T) {
	const v, m = api.MaxLevel, api.MaxMinute
	wide := api.Gauge{Name: "g", Error: api.MaxError, Marks: marks(0, -v, m, v)}
	for _, c := range []struct {
		g      api.Gauge
		minute int
		want   reading
	}{
		{pier(), 3, known(5, 10)},
		{pier(), 10, known(23, 27)},
		{pier(), 0, known(-2, 2)},
		{pier(), 4, known(8, 12)}, // a whole number between two marks
		{pier(), 11, failed(api.ErrNone)},
		{pier(), m, failed(api.ErrNone)},
		{pier(), -1, failed(api.ErrRange)},
		{pier(), m + 1, failed(api.ErrRange)},
		{pier(), math.MaxInt, failed(api.ErrRange)},
		{pier(), math.MinInt, failed(api.ErrRange)},
		{exact(), 0, failed(api.ErrNone)},
		{exact(), -1, failed(api.ErrRange)},
		{exact(5, 7), 4, failed(api.ErrNone)},
		{exact(5, 7), 5, known(7, 7)},
		{exact(5, 7), 6, failed(api.ErrNone)},
		{exact(0, 0, 2, -1), 1, known(-1, 0)}, // -1/2: down is towards minus infinity
		{exact(0, -4, 3, -5), 1, known(-5, -4)},
		{exact(0, 3, 2, -3), 1, known(0, 0)},
		{exact(0, 0, 10, 10, 20, 0), 13, known(7, 7)},
		{wide, 0, known(-v-1000, -v+1000)},
		{wide, m, known(v-1000, v+1000)},
		{wide, m / 2, known(-1000, 1000)},
		{wide, m - 1, known(v-1-1000, v+1000)},
	} {
		same(t, atOf(c.g, c.minute), c.want, "At", c.g, c.minute)
	}
}

func TestP22AtComputed(t *testing.T) {
	s := &numbers{1}
	for range 2000 {
		g := s.gauge(8, 30)
		minute := s.next(60)
		same(t, atOf(g, minute), expected(levelOf(g, minute)), "At", g, minute)
	}
	for range 500 {
		a, b := s.next(400000), 500000+s.next(500001)
		g := exact(a, s.next(40001)-20000, b, s.next(40001)-20000)
		minute := s.next(api.MaxMinute + 1)
		same(t, atOf(g, minute), expected(levelOf(g, minute)), "At", g, minute)
	}
}

func TestP22Level(t *testing.T) {
	const x = api.MaxPlace
	two := []api.Gauge{pier(), lock()}
	late := lock()
	late.Marks = marks(5, 100, 15, 100)
	apart := []api.Gauge{pier(), late}
	for _, c := range []struct {
		l         []api.Gauge
		x, minute int
		want      reading
	}{
		{two, 250, 10, known(42, 46)},
		{two, 2000, 10, known(100, 100)},
		{two, x, 10, known(100, 100)},
		{two, -1, 10, known(23, 27)},
		{two, -x, 10, known(23, 27)},
		{two, 0, 3, known(5, 10)},
		{two, 1000, 3, known(100, 100)},
		{two, 1, 0, known(-2, 3)},     // -1.898 to 2.098
		{two, 999, 0, known(99, 100)}, // 99.898 to 99.902
		{two, 500, 11, failed(api.ErrNone)},
		{two, x + 1, 0, failed(api.ErrRange)},
		{two, -x - 1, 0, failed(api.ErrRange)},
		{two, math.MinInt, 0, failed(api.ErrRange)},
		{two, 0, -1, failed(api.ErrRange)},
		{two, 0, api.MaxMinute + 1, failed(api.ErrRange)},
		{two, 0, api.MaxMinute, failed(api.ErrNone)},
		{apart, 0, 0, known(-2, 2)},                // the second gauge is not used
		{apart, -5, 0, known(-2, 2)},               // nor here
		{apart, 1, 0, failed(api.ErrNone)},         // here it is
		{apart, 999, 15, failed(api.ErrNone)},      // and here the first one
		{apart, 1000, 15, known(100, 100)},         // not here
		{apart, 1001, 15, known(100, 100)},         // nor here
		{apart, 1000, 0, failed(api.ErrNone)},      // it has no level yet
		{apart, 0, 11, failed(api.ErrNone)},        // it has none any more
		{nil, 0, 0, failed(api.ErrNone)},           // no gauges
		{nil, x + 1, 0, failed(api.ErrRange)},      // an error before that
		{[]api.Gauge{}, 0, 0, failed(api.ErrNone)}, // as nil
		{[]api.Gauge{lock()}, 0, 0, known(100, 100)},
		{[]api.Gauge{lock()}, 1000, 0, known(100, 100)},
		{[]api.Gauge{lock()}, 2000, 0, known(100, 100)},
	} {
		same(t, placed(c.l, c.x, c.minute), c.want, "Level", c.l, c.x, c.minute)
	}
}

func TestP22LevelComputed(t *testing.T) {
	s := &numbers{2}
	for range 5000 {
		l := s.gauges(6, 40)
		x, minute := s.next(140)-40, s.next(40)
		same(t, placed(l, x, minute), expected(placeOf(l, x, minute)), "Level", l, x, minute)
	}
	far := []api.Gauge{
		{Name: "a", X: -api.MaxPlace, Error: api.MaxError, Marks: marks(0, -api.MaxLevel)},
		{Name: "b", X: api.MaxPlace, Error: api.MaxError, Marks: marks(0, api.MaxLevel)},
	}
	for range 500 {
		x := s.next(2*api.MaxPlace+1) - api.MaxPlace
		same(t, placed(far, x, 0), expected(placeOf(far, x, 0)), "Level", far, x)
	}
}
