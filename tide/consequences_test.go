package tide_test

import (
	"math"
	"slices"
	"testing"

	"draghead/api"
	"draghead/tide"
)

func TestP28MeanLevelWithin(t *testing.T) {
	s := &numbers{11}
	for range 3000 {
		g := s.gauge(8, 30)
		minute := s.next(60)
		v, e := tide.At(g, minute)
		if e != api.OK {
			continue
		}
		mean := meanOf(g, minute)
		same(t, v.Lo <= floor(mean) && ceiling(mean) <= v.Hi, true, "the mean level is within", g, minute)
		same(t, v.Hi-v.Lo <= 2*g.Error+1, true, "the level is at most so wide", g, minute)
	}
}

func TestP28WindowsWithin(t *testing.T) {
	s := &numbers{12}
	for range 1000 {
		l := s.gauges(4, 20)
		x, level, w := s.next(60)-30, s.next(41)-20, window(0, 60)
		sure, _ := tide.Sure(l, x, level, w)
		possible, _ := tide.Possible(l, x, level, w)
		lieWithin(t, sure, possible, "Sure in Possible", l, x, level)
		above, _ := tide.Sure(l, x, level+1+s.next(3), w)
		lieWithin(t, above, sure, "Sure of a greater level", l, x, level)
		above, _ = tide.Possible(l, x, level+1+s.next(3), w)
		lieWithin(t, above, possible, "Possible of a greater level", l, x, level)
	}
}

// lieWithin fails the test unless each window of a lies within one of b.
func lieWithin(t *testing.T, a, b []api.Window, what string, about ...any) {
	t.Helper()
	for _, v := range a {
		inside := slices.ContainsFunc(b, func(w api.Window) bool { return w.From <= v.From && v.To <= w.To })
		same(t, inside, true, what, append(about, v)...)
	}
}

func TestP28Simplify(t *testing.T) {
	s := &numbers{13}
	for range 1000 {
		g := s.gauge(10, 2)
		got, e := tide.Simplify(g)
		same(t, e, api.OK, "Simplify", g)
		for minute := range 100 {
			same(t, atOf(got, minute), atOf(g, minute), "the level after Simplify", g, minute)
		}
		again, _ := tide.Simplify(got)
		sameGauge(t, again, got, "Simplify of a simplified gauge", g)
	}
}

func TestP28Twelfths(t *testing.T) {
	s := &numbers{14}
	for range 1000 {
		g := s.gauge(10, 30)
		got, e := tide.Twelfths(g)
		same(t, e, api.OK, "Twelfths", g)
		same(t, tide.CheckGauge(got), api.OK, "CheckGauge after Twelfths", g)
		for i, m := range g.Marks {
			same(t, atOf(got, m.Minute), atOf(g, m.Minute), "the level after Twelfths", g, m)
			if i == 0 {
				continue
			}
			before := g.Marks[i-1]
			for minute := before.Minute; minute <= m.Minute; minute++ {
				mean := meanOf(got, minute)
				inside := min(before.Level, m.Level) <= floor(mean) && ceiling(mean) <= max(before.Level, m.Level)
				same(t, inside, true, "the level after Twelfths is between both", g, minute)
			}
		}
	}
}

func TestP28MergeOrder(t *testing.T) {
	s := &numbers{15}
	for range 1000 {
		a, b := s.gauge(6, 1), s.gauge(6, 1)
		if s.next(9) > 0 {
			b.X, b.Error = a.X, a.Error
		}
		one, e := tide.Merge(a, b)
		other, f := tide.Merge(b, a)
		same(t, e, f, "the error of Merge", a, b)
		sameGauge(t, one, other, "Merge", a, b)
		itself, e := tide.Merge(a, a)
		same(t, e, api.OK, "Merge with itself", a)
		sameGauge(t, itself, a, "Merge with itself", a)
	}
}

func TestP28Texts(t *testing.T) {
	longest := api.Gauge{Name: "abcdefghijkl", X: -api.MaxPlace, Error: api.MaxError}
	for i := range api.MaxMarks {
		longest.Marks = append(longest.Marks, api.Mark{Minute: api.MaxMinute - api.MaxMarks + 1 + i, Level: -api.MaxLevel})
	}
	readBack(t, longest)
	readBack(t, exact())
	s := &numbers{16}
	for range 1000 {
		readBack(t, s.gauge(20, api.MaxLevel))
	}
}

func readBack(t *testing.T, g api.Gauge) {
	t.Helper()
	text, e := tide.Print(g)
	same(t, e, api.OK, "Print", g)
	got, line, e := tide.Parse(text)
	same(t, e, api.OK, "Parse", text)
	same(t, line, 0, "Parse", text)
	sameGauge(t, got, g, "Parse", text)
}

// roomy is a gauge whose record has room behind its end, with a mark there that nobody may overwrite.
func roomy() api.Gauge {
	all := marks(0, 0, 10, 10, 20, 20, 30, 10, 40, 77)
	return api.Gauge{Name: "g", Error: 1, Marks: all[:4]}
}

// R3: results are overwritten here, and the arguments are what they were before.
func TestP28Memory(t *testing.T) {
	g, h, seen := roomy(), with(roomy(), 5, 5, 30, 10, 35, 0), marks(30, 4, 0, 3)
	l := []api.Gauge{g, lock()}
	wipe := func(l []api.Mark, _ api.Errno) { clear(l) }
	wipeGauge := func(g api.Gauge, _ api.Errno) { clear(g.Marks) }
	wipe(tide.HighWaters(g))
	wipe(tide.LowWaters(g))
	wipeGauge(tide.Shift(g, 5))
	wipeGauge(tide.Shift(g, 0))
	wipeGauge(tide.Shift(g, api.MaxLevel-15))
	wipeGauge(tide.Merge(g, h))
	wipeGauge(tide.Merge(g, g))
	wipeGauge(tide.Merge(g, with(g)))
	wipeGauge(tide.Merge(with(g), g))
	wipeGauge(tide.Simplify(g))
	wipeGauge(tide.Simplify(h))
	wipeGauge(tide.Twelfths(g))
	wipeGauge(tide.Calibrate(g, seen))
	tide.Ranges(g)
	tide.Residuals(g, seen)
	sure, _ := tide.Sure(l, 0, 5, window(0, 40))
	clear(sure)
	sameGauge(t, g, roomy(), "the gauge after all calls")
	sameList(t, g.Marks[:5], roomy().Marks[:5], "the record and what is behind it")
	sameGauge(t, h, with(roomy(), 5, 5, 30, 10, 35, 0), "the other gauge")
	sameList(t, seen, marks(30, 4, 0, 3), "the observations")
	sameGauge(t, l[0], roomy(), "the list of gauges")
	sameGauge(t, l[1], lock(), "the list of gauges")
}

// R2: the ends of the range of int everywhere, and results that are the same again.
func TestP28AnyArguments(t *testing.T) {
	ends := []int{math.MinInt, -1, 0, 1, math.MaxInt}
	for _, a := range ends {
		for _, b := range ends {
			g := api.Gauge{Name: "g", X: a, Error: b, Marks: marks(a, b, b, a)}
			gaugeCalls(g)
			for _, c := range ends {
				listCalls([]api.Gauge{pier(), lock()}, a, window(b, c))
				for _, l := range [][]api.Gauge{nil, {pier(), lock()}} {
					one, e := tide.Possible(l, a, b, window(c, a))
					other, f := tide.Possible(l, a, b, window(c, a))
					same(t, e, f, "Possible", a, b, c)
					sameList(t, one, other, "Possible", a, b, c)
				}
			}
		}
	}
}
