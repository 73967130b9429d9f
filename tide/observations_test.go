package tide_test

import (
	"math"
	"math/big"
	"slices"
	"testing"

	"draghead/api"
	"draghead/tide"
)

func TestP26Errors(t *testing.T) {
	const v, m = api.MaxLevel, api.MaxMinute
	long := steps(401, 1)
	long[0].Minute = -1
	for _, c := range []struct {
		g    api.Gauge
		seen []api.Mark
		want api.Errno
	}{
		{pier(), nil, api.ErrNone},
		{pier(), []api.Mark{}, api.ErrNone},
		{exact(), nil, api.ErrNone},
		{pier(), long, api.ErrLarge},
		{exact(), long, api.ErrLarge},
		{pier(), marks(-1, 0), api.ErrRange},
		{pier(), marks(m+1, 0), api.ErrRange},
		{pier(), marks(0, v+1), api.ErrRange},
		{pier(), marks(0, -v-1), api.ErrRange},
		{pier(), marks(0, math.MinInt), api.ErrRange},
		{pier(), marks(math.MaxInt, math.MaxInt), api.ErrRange},
		{pier(), marks(11, 0), api.ErrNone},
		{pier(), marks(m, 0), api.ErrNone},
		{exact(5, 0), marks(4, 0), api.ErrNone},
		{exact(), marks(0, 0), api.ErrNone},
		{pier(), marks(11, v+1), api.ErrRange},     // of one observation ErrRange comes first
		{pier(), marks(11, 0, -1, 0), api.ErrNone}, // the first one that is wrong decides
		{pier(), marks(0, 0, -1, 0, 11, 0), api.ErrRange},
		{pier(), marks(0, v, 11, 0), api.ErrNone}, // all before the error would be too great
	} {
		r, e := tide.Residuals(c.g, c.seen)
		same(t, reading{r, e}, failed(c.want), "Residuals", c.g, c.seen)
		g, e := tide.Calibrate(c.g, c.seen)
		same(t, e, c.want, "Calibrate", c.g, c.seen)
		same(t, isEmpty(g), true, "Calibrate", c.g, c.seen)
	}
}

func TestP26Residuals(t *testing.T) {
	const v = api.MaxLevel
	for _, c := range []struct {
		g      api.Gauge
		seen   []api.Mark
		lo, hi int
	}{
		{pier(), marks(3, 12, 10, 24), -1, 5},
		{pier(), marks(10, 24, 3, 12), -1, 5}, // in any order
		{pier(), marks(3, 12), 4, 5},
		{pier(), marks(3, 3), -5, -4}, // -4 1/2
		{pier(), marks(10, 24), -1, -1},
		{pier(), marks(0, 0, 0, 0), 0, 0},
		{pier(), marks(0, 3, 0, -4), -4, 3}, // the same minute twice
		{pier(), marks(0, 9, 4, 19, 10, 32), 7, 9},
		{pier(), marks(0, -9, 4, 1, 10, 18), -9, -7},
		{exact(0, v), marks(0, -v), -2 * v, -2 * v},
	} {
		r, e := tide.Residuals(c.g, c.seen)
		same(t, reading{r, e}, known(c.lo, c.hi), "Residuals", c.g, c.seen)
	}
	r, e := tide.Residuals(full(400), steps(400, 0))
	same(t, reading{r, e}, known(0, 1), "Residuals of 400 observations")
}

func TestP26Calibrate(t *testing.T) {
	wide := pier()
	wide.Error = 900
	for _, c := range []struct {
		g    api.Gauge
		seen []api.Mark
		want int
		e    api.Errno
	}{
		{pier(), marks(3, 12, 10, 24), 4, api.OK},
		{pier(), marks(10, 24, 3, 12), 4, api.OK},
		{pier(), marks(3, 12), 4, api.OK},
		{pier(), marks(3, 3), 4, api.OK}, // 7 1/2 rounded down is 7, 7 - 4 = 3
		{pier(), marks(3, 10), 2, api.OK},
		{pier(), marks(3, 11), 3, api.OK},
		{pier(), marks(3, 5), 2, api.OK},
		{pier(), marks(3, 4), 3, api.OK},
		{pier(), marks(0, 9, 10, 32), 9, api.OK},
		{pier(), marks(0, 0), 2, api.OK}, // never less than before
		{wide, marks(3, 12), 900, api.OK},
		{exact(0, 0), marks(0, 1000), 1000, api.OK},
		{exact(0, 0), marks(0, -1000), 1000, api.OK},
		{exact(0, 0), marks(0, 1001), 0, api.ErrRange},
		{exact(0, 0), marks(0, -1001), 0, api.ErrRange},
		{exact(0, 0, 2, 1), marks(1, 1001), 1000, api.OK},
		{exact(0, 0, 2, 1), marks(1, -1001), 0, api.ErrRange},
	} {
		got, e := tide.Calibrate(c.g, c.seen)
		same(t, e, c.e, "Calibrate", c.g, c.seen)
		want := api.Gauge{}
		if e == api.OK {
			want = api.Gauge{Name: c.g.Name, X: c.g.X, Error: c.want, Marks: c.g.Marks}
		}
		sameGauge(t, got, want, "Calibrate", c.g, c.seen)
	}
}

func TestP26Computed(t *testing.T) {
	s := &numbers{7}
	for range 1000 {
		g := s.gauge(8, 20)
		if len(g.Marks) == 0 {
			continue
		}
		first, last := g.Marks[0].Minute, g.Marks[len(g.Marks)-1].Minute
		var seen []api.Mark
		var least, greatest *big.Rat
		for range 1 + s.next(4) {
			m := api.Mark{Minute: first + s.next(last-first+1), Level: s.next(61) - 30}
			seen = append(seen, m)
			d := big.NewRat(int64(m.Level), 1)
			d.Sub(d, meanOf(g, m.Minute))
			if least == nil || d.Cmp(least) < 0 {
				least = d
			}
			if greatest == nil || d.Cmp(greatest) > 0 {
				greatest = d
			}
		}
		r, e := tide.Residuals(g, seen)
		same(t, reading{r, e}, known(floor(least), ceiling(greatest)), "Residuals", g, seen)
		got, e := tide.Calibrate(g, seen)
		same(t, e, api.OK, "Calibrate", g, seen)
		same(t, got.Error, leastError(g, seen), "Calibrate", g, seen)
	}
}

// leastError tries one error after another.
func leastError(g api.Gauge, seen []api.Mark) int {
	for slices.ContainsFunc(seen, func(m api.Mark) bool {
		v, is := levelOf(g, m.Minute)
		return !is || m.Level < v.Lo || m.Level > v.Hi
	}) {
		g.Error++
	}
	return g.Error
}
