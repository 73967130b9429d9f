package tide_test

import (
	"math"
	"slices"
	"testing"

	"draghead/api"
	"draghead/tide"
)

// with is the gauge g with other marks.
func with(g api.Gauge, l ...int) api.Gauge {
	g.Marks = marks(l...)
	return g
}

func TestP25Shift(t *testing.T) {
	const v = api.MaxLevel
	low, high := exact(0, -v, 1, -v), exact(0, v)
	for _, c := range []struct {
		g    api.Gauge
		by   int
		want api.Gauge
		e    api.Errno
	}{
		{pier(), 5, with(pier(), 0, 5, 10, 30), api.OK},
		{pier(), -5, with(pier(), 0, -5, 10, 20), api.OK},
		{pier(), 0, pier(), api.OK},
		{lock(), 1, with(lock(), 0, 101, 10, 101), api.OK},
		{low, 2 * v, exact(0, v, 1, v), api.OK},
		{high, -2 * v, exact(0, -v), api.OK},
		{low, 2*v + 1, api.Gauge{}, api.ErrRange},
		{high, -2*v - 1, api.Gauge{}, api.ErrRange},
		{high, 1, api.Gauge{}, api.ErrRange},
		{low, -1, api.Gauge{}, api.ErrRange},
		{exact(0, 0, 1, v-9), 10, api.Gauge{}, api.ErrRange},
		{exact(0, 0, 1, v-10), 10, exact(0, 10, 1, v), api.OK},
		{exact(), 2 * v, exact(), api.OK},
		{exact(), -2 * v, exact(), api.OK},
		{exact(), 2*v + 1, api.Gauge{}, api.ErrRange},
		{exact(), -2*v - 1, api.Gauge{}, api.ErrRange},
		{exact(), math.MinInt, api.Gauge{}, api.ErrRange},
		{exact(0, 1), math.MaxInt, api.Gauge{}, api.ErrRange},
	} {
		got, e := tide.Shift(c.g, c.by)
		same(t, e, c.e, "Shift", c.g, c.by)
		sameGauge(t, got, c.want, "Shift", c.g, c.by)
	}
}

// spaced is a gauge with n marks, every second minute from the first one on.
func spaced(n, first int) api.Gauge {
	g := exact()
	for i := range n {
		g.Marks = append(g.Marks, api.Mark{Minute: first + 2*i, Level: 3})
	}
	return g
}

func TestP25Merge(t *testing.T) {
	other := exact(0, 0)
	other.Error = 1
	aside := exact(0, 0)
	aside.X = 1
	named := exact(0, 0)
	named.Name = "G"
	clash := spaced(250, 0)
	clash.Marks[249].Level++
	for _, c := range []struct {
		a, b, want api.Gauge
		e          api.Errno
	}{
		{exact(), exact(), exact(), api.OK},
		{exact(0, 1), exact(), exact(0, 1), api.OK},
		{exact(0, 1, 4, 2), exact(2, 7, 9, 8), exact(0, 1, 2, 7, 4, 2, 9, 8), api.OK},
		{exact(5, 1, 6, 2), exact(0, 7, 1, 8), exact(0, 7, 1, 8, 5, 1, 6, 2), api.OK},
		{exact(0, 1, 4, 2), exact(0, 1, 3, 5, 4, 2), exact(0, 1, 3, 5, 4, 2), api.OK},
		{pier(), pier(), pier(), api.OK},
		{exact(0, 1, 4, 2), exact(4, 3), api.Gauge{}, api.ErrConflict},
		{exact(0, 1), exact(0, -1, 1, 0), api.Gauge{}, api.ErrConflict},
		{exact(0, 0), other, api.Gauge{}, api.ErrShape},
		{exact(0, 0), aside, api.Gauge{}, api.ErrShape},
		{exact(0, 0), named, api.Gauge{}, api.ErrShape},
		{exact(0, 1), other, api.Gauge{}, api.ErrShape}, // before ErrConflict
		{full(400), full(400), full(400), api.OK},
		{spaced(200, 0), spaced(201, 1), api.Gauge{}, api.ErrLarge},
		{spaced(400, 0), spaced(1, 1), api.Gauge{}, api.ErrLarge},
		{spaced(400, 0), spaced(1, 0), spaced(400, 0), api.OK},
		{clash, spaced(400, 1), api.Gauge{}, api.ErrLarge},
		{clash, spaced(400, 0), api.Gauge{}, api.ErrConflict},   // one minute has two levels
		{clash, spaced(250, 498), api.Gauge{}, api.ErrConflict}, // before ErrLarge
		{exact(-1, 0), exact(0, 0, 0, 0), api.Gauge{}, api.ErrRange},
		{exact(0, 0, 0, 0), exact(-1, 0), api.Gauge{}, api.ErrOrder},
		{exact(), exact(-1, 0), api.Gauge{}, api.ErrRange},
		{named, api.Gauge{}, api.Gauge{}, api.ErrName}, // before ErrShape
	} {
		got, e := tide.Merge(c.a, c.b)
		same(t, e, c.e, "Merge", c.a, c.b)
		sameGauge(t, got, c.want, "Merge", c.a, c.b)
	}
	got, e := tide.Merge(spaced(200, 0), spaced(200, 1))
	same(t, e, api.OK, "Merge of 400 marks")
	same(t, len(got.Marks), 400, "Merge of 400 marks")
}

func TestP25Simplify(t *testing.T) {
	const v, m = api.MaxLevel, api.MaxMinute
	for _, c := range []struct{ g, want api.Gauge }{
		{exact(), exact()},
		{exact(4, 2), exact(4, 2)},
		{exact(4, 2, 5, 2), exact(4, 2, 5, 2)},
		{exact(0, 0, 10, 10, 20, 20, 30, 10), exact(0, 0, 20, 20, 30, 10)},
		{exact(0, 3, 1, 3, 5, 3, 9, 3), exact(0, 3, 9, 3)},
		{exact(0, 0, 1, 1, 3, 3, 4, 4, 9, 9), exact(0, 0, 9, 9)},
		{exact(0, 0, 1, -1, 3, -3), exact(0, 0, 3, -3)},
		{exact(0, 0, 2, 1, 3, 2), exact(0, 0, 2, 1, 3, 2)}, // near the line is not on it
		{exact(0, 0, 3, 1, 5, 2), exact(0, 0, 3, 1, 5, 2)},
		{exact(0, 0, 2, 1, 4, 2, 6, 3, 7, 3, 8, 3), exact(0, 0, 6, 3, 8, 3)},
		{exact(0, 0, 1, 2, 2, 0, 3, 2), exact(0, 0, 1, 2, 2, 0, 3, 2)},
		{exact(0, -v, m/2, 0, m, v), exact(0, -v, m, v)},
		{exact(0, -v, m/2, 1, m, v), exact(0, -v, m/2, 1, m, v)},
		{pier(), pier()},
		{with(lock(), 0, 1, 1, 1, 2, 1), with(lock(), 0, 1, 2, 1)},
	} {
		got, e := tide.Simplify(c.g)
		same(t, e, api.OK, "Simplify", c.g)
		sameGauge(t, got, c.want, "Simplify", c.g)
	}
}

func TestP25Twelfths(t *testing.T) {
	const v, m = api.MaxLevel, api.MaxMinute
	for _, c := range []struct{ g, want api.Gauge }{
		{exact(), exact()},
		{exact(4, 2), exact(4, 2)},
		{exact(0, 0, 60, 120), exact(0, 0, 10, 10, 20, 30, 30, 60, 40, 90, 50, 110, 60, 120)},
		{exact(0, 120, 60, 0), exact(0, 120, 10, 110, 20, 90, 30, 60, 40, 30, 50, 10, 60, 0)},
		{exact(5, 0, 6, 12), exact(5, 0, 6, 12)},                                    // no minute between
		{exact(5, 0, 7, 12), exact(5, 0, 6, 6, 7, 12)},                              // 5 + 3 * 2/6 is the first to be 6
		{exact(5, 0, 8, 12), exact(5, 0, 6, 3, 7, 9, 8, 12)},                        // i = 2 and 4
		{exact(5, 0, 9, 12), exact(5, 0, 6, 3, 7, 6, 8, 11, 9, 12)},                 // i = 2, 3 and 5
		{exact(5, 0, 12, 12), exact(5, 0, 6, 1, 7, 3, 8, 6, 9, 9, 10, 11, 12, 12)},  // 5 * 7/6 is 5
		{exact(0, 0, 6, 1), exact(0, 0, 1, 0, 2, 0, 3, 0, 4, 0, 5, 0, 6, 1)},        // rounded down
		{exact(0, 0, 6, -1), exact(0, 0, 1, -1, 2, -1, 3, -1, 4, -1, 5, -1, 6, -1)}, // towards minus infinity
		{exact(0, 5, 6, -2), exact(0, 5, 1, 4, 2, 3, 3, 1, 4, -1, 5, -2, 6, -2)},    // -7/12, -21/12, -42/12, -63/12, -77/12
		{exact(0, 0, 2, 12, 4, 0), exact(0, 0, 1, 6, 2, 12, 3, 6, 4, 0)},            // two pairs of marks
		{with(pier(), 0, 0, 2, 12), with(pier(), 0, 0, 1, 6, 2, 12)},                // the other fields
		{exact(0, -v, m, v), exact(0, -v, 166666, -16667, 333333, -10000, 500000, 0, 666666, 10000, 833333, 16666, m, v)},
	} {
		got, e := tide.Twelfths(c.g)
		same(t, e, api.OK, "Twelfths", c.g)
		sameGauge(t, got, c.want, "Twelfths", c.g)
	}
}

func TestP25TwelfthsLarge(t *testing.T) {
	// 67 marks, six minutes apart, have 66 * 6 + 1 = 397 marks after it, 68 have 403.
	for _, c := range []struct {
		l    []api.Mark
		size int
		want api.Errno
	}{
		{steps(67, 6), 397, api.OK},
		{steps(68, 6), 0, api.ErrLarge},
		{append(steps(67, 6), marks(397, 0, 398, 0, 399, 0)...), 400, api.OK},
		{append(steps(67, 6), marks(397, 0, 398, 0, 399, 0, 400, 0)...), 0, api.ErrLarge},
		{steps(400, 1), 400, api.OK},
		{steps(400, 6), 0, api.ErrLarge},
		{steps(400, 2), 0, api.ErrLarge},
		{steps(200, 2), 399, api.OK},
	} {
		got, e := tide.Twelfths(api.Gauge{Name: "g", Marks: c.l})
		same(t, e, c.want, "Twelfths", len(c.l))
		same(t, len(got.Marks), c.size, "Twelfths", len(c.l))
	}
}

// Which marks are added is found by the minutes: the one at a minute is that of the least i.
func TestP25TwelfthsComputed(t *testing.T) {
	s := &numbers{5}
	for range 1000 {
		n, v, w := 1+s.next(30), s.next(81)-40, s.next(81)-40
		want := marks(100, v)
		for minute := 1; minute < n; minute++ {
			for i, k := range []int{1, 3, 6, 9, 11} {
				if (i+1)*n/6 == minute {
					level := int(math.Floor(float64(k*(w-v)) / 12))
					want = append(want, api.Mark{Minute: 100 + minute, Level: v + level})
					break
				}
			}
		}
		want = append(want, api.Mark{Minute: 100 + n, Level: w})
		got, e := tide.Twelfths(exact(100, v, 100+n, w))
		same(t, e, api.OK, "Twelfths", n, v, w)
		sameList(t, got.Marks, want, "Twelfths", n, v, w)
	}
}

func TestP25MergeComputed(t *testing.T) {
	s := &numbers{6}
	for range 2000 {
		a, b := s.gauge(6, 1), s.gauge(6, 1)
		b.X, b.Error = a.X, a.Error
		levels := map[int]int{}
		conflict := false
		for _, m := range slices.Concat(a.Marks, b.Marks) {
			v, is := levels[m.Minute]
			conflict = conflict || is && v != m.Level
			levels[m.Minute] = m.Level
		}
		got, e := tide.Merge(a, b)
		if conflict {
			same(t, e, api.ErrConflict, "Merge", a, b)
			same(t, isEmpty(got), true, "Merge", a, b)
			continue
		}
		same(t, e, api.OK, "Merge", a, b)
		same(t, len(got.Marks), len(levels), "Merge", a, b)
		for i, m := range got.Marks {
			v, is := levels[m.Minute]
			same(t, is && v == m.Level, true, "Merge", a, b)
			same(t, i == 0 || got.Marks[i-1].Minute < m.Minute, true, "Merge", a, b)
		}
	}
}
