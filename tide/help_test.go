package tide_test

import (
	"math/big"
	"slices"
	"testing"

	"draghead/api"
	"draghead/tide"
)

// marks makes a record of pairs of a minute and a level.
func marks(l ...int) []api.Mark {
	var out []api.Mark
	for i := 0; i+1 < len(l); i += 2 {
		out = append(out, api.Mark{Minute: l[i], Level: l[i+1]})
	}
	return out
}

// pier is the gauge of the chapter's first example, lock the second one.
func pier() api.Gauge { return api.Gauge{Name: "pier", Error: 2, Marks: marks(0, 0, 10, 25)} }

func lock() api.Gauge { return api.Gauge{Name: "lock", X: 1000, Marks: marks(0, 100, 10, 100)} }

// exact is a gauge without an error.
func exact(l ...int) api.Gauge { return api.Gauge{Name: "g", Marks: marks(l...)} }

// steps is a record of n marks whose minutes differ by so much, going up and down.
func steps(n, by int) []api.Mark {
	var out []api.Mark
	for i := range n {
		out = append(out, api.Mark{Minute: i * by, Level: i % 2})
	}
	return out
}

// full is a gauge with n marks.
func full(n int) api.Gauge { return api.Gauge{Name: "full", Marks: steps(n, 1)} }

// numbers is a sequence that looks irregular and is always the same.
type numbers struct{ state uint64 }

// next is a number from 0 to below n.
func (s *numbers) next(n int) int {
	s.state = s.state*6364136223846793005 + 1442695040888963407
	return int(s.state>>33) % n
}

// record is at most n marks whose minutes are close to each other, with levels from -most to most.
func (s *numbers) record(n, most int) []api.Mark {
	var out []api.Mark
	minute := s.next(5)
	for range s.next(n + 1) {
		out = append(out, api.Mark{Minute: minute, Level: s.next(2*most+1) - most})
		minute += 1 + s.next(9)
	}
	return out
}

// gauge is a gauge with at most n marks.
func (s *numbers) gauge(n, most int) api.Gauge {
	return api.Gauge{Name: "g", X: s.next(9) - 4, Error: s.next(4), Marks: s.record(n, most)}
}

// gauges is at most n gauges in a valid list.
func (s *numbers) gauges(n, most int) []api.Gauge {
	var out []api.Gauge
	x := s.next(20) - 30
	for i := range s.next(n + 1) {
		g := s.gauge(8, most)
		g.Name, g.X = string(rune('a'+i)), x
		out = append(out, g)
		x += 1 + s.next(20)
	}
	return out
}

// meanOf is the mean level as a fraction, found by going through all marks; nil if there is none.
func meanOf(g api.Gauge, minute int) *big.Rat {
	for i, m := range g.Marks {
		if m.Minute == minute {
			return big.NewRat(int64(m.Level), 1)
		}
		if i > 0 && g.Marks[i-1].Minute < minute && minute < m.Minute {
			a := g.Marks[i-1]
			slope := big.NewRat(int64(m.Level-a.Level), int64(m.Minute-a.Minute))
			rise := slope.Mul(slope, big.NewRat(int64(minute-a.Minute), 1))
			return rise.Add(rise, big.NewRat(int64(a.Level), 1))
		}
	}
	return nil
}

func floor(r *big.Rat) int {
	return int(new(big.Int).Div(r.Num(), r.Denom()).Int64())
}

func ceiling(r *big.Rat) int {
	return -floor(new(big.Rat).Neg(r))
}

// levelOf is the level of a gauge from its mean level.
func levelOf(g api.Gauge, minute int) (api.Interval, bool) {
	r := meanOf(g, minute)
	if r == nil {
		return api.Interval{}, false
	}
	return api.Interval{Lo: floor(r) - g.Error, Hi: ceiling(r) + g.Error}, true
}

// placeOf is the level at a place, after the words of the chapter.
func placeOf(l []api.Gauge, x, minute int) (api.Interval, bool) {
	for i, g := range l {
		if g.X == x || i == 0 && x < g.X || i == len(l)-1 && x > g.X {
			return levelOf(g, minute)
		}
	}
	for i := 1; i < len(l); i++ {
		a, b := l[i-1], l[i]
		if a.X < x && x < b.X {
			v, known := levelOf(a, minute)
			w, also := levelOf(b, minute)
			mix := func(v, w int) *big.Rat {
				return big.NewRat(int64(v*(b.X-x)+w*(x-a.X)), int64(b.X-a.X))
			}
			return api.Interval{Lo: floor(mix(v.Lo, w.Lo)), Hi: ceiling(mix(v.Hi, w.Hi))}, known && also
		}
	}
	return api.Interval{}, false
}

// same fails the test if got is not want.
func same[T comparable](t *testing.T, got, want T, what string, about ...any) {
	t.Helper()
	if got != want {
		t.Errorf("%s %v: %v instead of %v", what, about, got, want)
	}
}

// sameList fails the test if the elements of got are not those of want.
func sameList[T comparable](t *testing.T, got, want []T, what string, about ...any) {
	t.Helper()
	if !slices.Equal(got, want) {
		t.Errorf("%s %v: %v instead of %v", what, about, got, want)
	}
}

// sameGauge fails the test if got is not want.
func sameGauge(t *testing.T, got, want api.Gauge, what string, about ...any) {
	t.Helper()
	if !equal(got, want) {
		t.Errorf("%s %v: %v instead of %v", what, about, got, want)
	}
}

func equal(a, b api.Gauge) bool {
	return a.Name == b.Name && a.X == b.X && a.Error == b.Error && slices.Equal(a.Marks, b.Marks)
}

// isEmpty reports whether a gauge is the zero value.
func isEmpty(g api.Gauge) bool { return equal(g, api.Gauge{}) }

// answer is what a call returned: whether all results beside the error are zero values, and the error.
type answer struct {
	empty bool
	e     api.Errno
}

// refused is the answer of a call that returns only an error.
func refused(e api.Errno) answer { return answer{true, e} }

// gaugeCalls calls every function with a gauge; whatever else it is given is wrong.
func gaugeCalls(g api.Gauge) map[string]answer {
	out := map[string]answer{"CheckGauge": refused(tide.CheckGauge(g))}
	value, e := tide.At(g, -1)
	out["At"] = answer{value == api.Interval{}, e}
	list, e := tide.HighWaters(g)
	out["HighWaters"] = answer{len(list) == 0, e}
	list, e = tide.LowWaters(g)
	out["LowWaters"] = answer{len(list) == 0, e}
	sizes, e := tide.Ranges(g)
	out["Ranges"] = answer{len(sizes) == 0, e}
	changed, e := tide.Shift(g, 2*api.MaxLevel+1)
	out["Shift"] = answer{isEmpty(changed), e}
	changed, e = tide.Merge(g, api.Gauge{X: -api.MaxPlace - 1})
	out["Merge"] = answer{isEmpty(changed), e}
	changed, e = tide.Merge(lock(), g)
	out["Merge behind"] = answer{isEmpty(changed), e}
	changed, e = tide.Simplify(g)
	out["Simplify"] = answer{isEmpty(changed), e}
	changed, e = tide.Twelfths(g)
	out["Twelfths"] = answer{isEmpty(changed), e}
	value, e = tide.Residuals(g, nil)
	out["Residuals"] = answer{value == api.Interval{}, e}
	changed, e = tide.Calibrate(g, steps(401, 1))
	out["Calibrate"] = answer{isEmpty(changed), e}
	text, e := tide.Print(g)
	out["Print"] = answer{text == "", e}
	return out
}

// listCalls calls every function with gauges and a place.
func listCalls(l []api.Gauge, x int, w api.Window) map[string]answer {
	out := windowCalls(l, x, w)
	out["CheckGauges"] = refused(tide.CheckGauges(l))
	value, e := tide.Level(l, x, w.From)
	out["Level"] = answer{value == api.Interval{}, e}
	return out
}

// windowCalls calls every function with a window.
func windowCalls(l []api.Gauge, x int, w api.Window) map[string]answer {
	out := map[string]answer{}
	value, e := tide.Span(l, x, w)
	out["Span"] = answer{value == api.Interval{}, e}
	list, e := tide.Sure(l, x, 0, w)
	out["Sure"] = answer{len(list) == 0, e}
	list, e = tide.Possible(l, x, 0, w)
	out["Possible"] = answer{len(list) == 0, e}
	minute, e := tide.First(l, x, 0, w)
	out["First"] = answer{minute == 0, e}
	longest, e := tide.Longest(l, x, 0, w)
	out["Longest"] = answer{longest == api.Window{}, e}
	return out
}

// allRefused fails the test unless all calls return this error and nothing else.
func allRefused(t *testing.T, calls map[string]answer, want api.Errno, about ...any) {
	t.Helper()
	for name, got := range calls {
		same(t, got, refused(want), name, about...)
	}
}
