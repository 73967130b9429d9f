package tide_test

import (
	"math"
	"testing"

	"draghead/api"
	"draghead/tide"
)

func window(from, to int) api.Window { return api.Window{From: from, To: to} }

// windows makes a list of pairs of minutes.
func windows(l ...int) []api.Window {
	var out []api.Window
	for i := 0; i+1 < len(l); i += 2 {
		out = append(out, window(l[i], l[i+1]))
	}
	return out
}

// waves is a list of one gauge that is at 10 in the minutes 2 to 3, 8 to 10, 14, and 18 to 20.
func waves() []api.Gauge {
	return []api.Gauge{exact(0, 0, 2, 10, 3, 10, 5, 0, 8, 10, 10, 10, 12, 0, 14, 10, 16, 0, 18, 10, 20, 10, 22, 0)}
}

func TestP23Errors(t *testing.T) {
	const m = api.MaxMinute
	l := []api.Gauge{{Name: "g", Error: 1, Marks: marks(0, 50, m, 50)}}
	for _, w := range []api.Window{
		window(-1, 0), window(0, -1), window(5, 4), window(0, m+1), window(m+1, m+1), window(m, m+1), window(0, 3001), window(m-3001, m),
		window(math.MinInt, math.MaxInt), window(math.MaxInt, math.MinInt), window(math.MinInt, 0), window(0, math.MaxInt), window(-5, -5),
	} {
		allRefused(t, windowCalls(l, 0, w), api.ErrRange, w)
	}
	for _, x := range []int{api.MaxPlace + 1, -api.MaxPlace - 1, math.MaxInt, math.MinInt} {
		allRefused(t, windowCalls(l, x, window(0, 1)), api.ErrRange, x)
	}
	for _, w := range []api.Window{window(0, 0), window(0, 3000), window(m-3000, m), window(m, m), window(7, 7)} {
		for _, x := range []int{0, api.MaxPlace, -api.MaxPlace} {
			v, e := tide.Span(l, x, w)
			same(t, reading{v, e}, known(49, 51), "Span", x, w)
			sure, e := tide.Sure(l, x, 49, w)
			same(t, e, api.OK, "Sure", x, w)
			sameList(t, sure, []api.Window{w}, "Sure", x, w)
		}
	}
}

func TestP23Span(t *testing.T) {
	two := []api.Gauge{pier(), lock()}
	for _, c := range []struct {
		l    []api.Gauge
		x    int
		w    api.Window
		want reading
	}{
		{two, 0, window(2, 4), known(3, 12)},
		{two, 0, window(0, 10), known(-2, 27)},
		{two, 0, window(4, 4), known(8, 12)},
		{two, 0, window(0, 20), failed(api.ErrNone)},
		{two, 0, window(10, 11), failed(api.ErrNone)},
		{two, 0, window(15, 20), failed(api.ErrNone)},
		{two, 500, window(0, 10), known(49, 64)},
		{nil, 0, window(0, 0), failed(api.ErrNone)},
		{waves(), 0, window(0, 22), known(0, 10)},
		{waves(), 0, window(6, 9), known(3, 10)},
		{waves(), 0, window(3, 4), known(5, 10)},
		{[]api.Gauge{exact(5, 1, 9, 1)}, 0, window(4, 9), failed(api.ErrNone)},
		{[]api.Gauge{exact(5, -3, 9, -7)}, 0, window(5, 9), known(-7, -3)},
	} {
		v, e := tide.Span(c.l, c.x, c.w)
		same(t, reading{v, e}, c.want, "Span", c.l, c.x, c.w)
	}
}

func TestP23SureAndPossible(t *testing.T) {
	one := []api.Gauge{pier()}
	for _, c := range []struct {
		l              []api.Gauge
		level          int
		w              api.Window
		sure, possible []api.Window
	}{
		{one, 10, window(0, 20), windows(5, 10), windows(3, 10)},
		{one, 10, window(4, 9), windows(5, 9), windows(4, 9)},
		{one, 10, window(0, 4), nil, windows(3, 4)},
		{one, 10, window(11, 20), nil, nil},
		{one, 24, window(0, 20), nil, windows(9, 10)},
		{one, 28, window(0, 20), nil, nil},
		{one, -2, window(0, 20), windows(0, 10), windows(0, 10)},
		{one, math.MinInt, window(0, 20), windows(0, 10), windows(0, 10)},
		{one, math.MaxInt, window(0, 20), nil, nil},
		{nil, math.MinInt, window(0, 20), nil, nil},
		{waves(), 10, window(0, 40), windows(2, 3, 8, 10, 14, 14, 18, 20), windows(2, 3, 8, 10, 14, 14, 18, 20)},
		{waves(), 10, window(3, 18), windows(3, 3, 8, 10, 14, 14, 18, 18), windows(3, 3, 8, 10, 14, 14, 18, 18)},
		{waves(), 7, window(6, 12), windows(8, 10), windows(7, 10)},
		{waves(), 0, window(0, 40), windows(0, 22), windows(0, 22)},
	} {
		got, e := tide.Sure(c.l, 0, c.level, c.w)
		same(t, e, api.OK, "Sure", c.l, c.level, c.w)
		sameList(t, got, c.sure, "Sure", c.l, c.level, c.w)
		got, e = tide.Possible(c.l, 0, c.level, c.w)
		same(t, e, api.OK, "Possible", c.l, c.level, c.w)
		sameList(t, got, c.possible, "Possible", c.l, c.level, c.w)
	}
}

func TestP23FirstAndLongest(t *testing.T) {
	for _, c := range []struct {
		l       []api.Gauge
		level   int
		w       api.Window
		first   int
		longest api.Window
		want    api.Errno
	}{
		{[]api.Gauge{pier()}, 10, window(0, 20), 5, window(5, 10), api.OK},
		{[]api.Gauge{pier()}, -2, window(0, 20), 0, window(0, 10), api.OK},
		{[]api.Gauge{pier()}, 24, window(0, 20), 0, api.Window{}, api.ErrNone}, // possible, but not sure
		{nil, 0, window(0, 20), 0, api.Window{}, api.ErrNone},
		{waves(), 10, window(0, 40), 2, window(8, 10), api.OK}, // the first one of two with three minutes
		{waves(), 10, window(9, 40), 9, window(18, 20), api.OK},
		{waves(), 10, window(14, 17), 14, window(14, 14), api.OK},
		{waves(), 11, window(0, 40), 0, api.Window{}, api.ErrNone},
		{waves(), math.MaxInt, window(0, 40), 0, api.Window{}, api.ErrNone},
	} {
		minute, e := tide.First(c.l, 0, c.level, c.w)
		same(t, e, c.want, "First", c.l, c.level, c.w)
		same(t, minute, c.first, "First", c.l, c.level, c.w)
		longest, e := tide.Longest(c.l, 0, c.level, c.w)
		same(t, e, c.want, "Longest", c.l, c.level, c.w)
		same(t, longest, c.longest, "Longest", c.l, c.level, c.w)
	}
}

// A minute is in a window exactly if the level there satisfies the condition, and neighbouring windows do not touch.
func TestP23WindowsComputed(t *testing.T) {
	s := &numbers{3}
	for range 1000 {
		l := s.gauges(3, 20)
		x, level, from := s.next(60)-30, s.next(41)-20, s.next(20)
		w := window(from, from+s.next(50))
		sure, e := tide.Sure(l, x, level, w)
		same(t, e, api.OK, "Sure", l, x, level, w)
		possible, e := tide.Possible(l, x, level, w)
		same(t, e, api.OK, "Possible", l, x, level, w)
		sameList(t, sure, collected(w, func(minute int) bool {
			v, is := placeOf(l, x, minute)
			return is && v.Lo >= level
		}), "Sure", l, x, level, w)
		sameList(t, possible, collected(w, func(minute int) bool {
			v, is := placeOf(l, x, minute)
			return is && v.Hi >= level
		}), "Possible", l, x, level, w)
		span, e := tide.Span(l, x, w)
		same(t, reading{span, e}, spanOf(l, x, w), "Span", l, x, w)
	}
}

// collected is the greatest windows within w of which all minutes are good.
func collected(w api.Window, good func(minute int) bool) []api.Window {
	var out []api.Window
	for from := w.From; from <= w.To; from++ {
		if !good(from) {
			continue
		}
		to := from
		for to < w.To && good(to+1) {
			to++
		}
		out = append(out, window(from, to))
		from = to
	}
	return out
}

func spanOf(l []api.Gauge, x int, w api.Window) reading {
	least, greatest := math.MaxInt, math.MinInt
	for minute := w.From; minute <= w.To; minute++ {
		v, is := placeOf(l, x, minute)
		if !is {
			return failed(api.ErrNone)
		}
		least, greatest = min(least, v.Lo), max(greatest, v.Hi)
	}
	return known(least, greatest)
}
