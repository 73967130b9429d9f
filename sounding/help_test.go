package sounding_test

import (
	"math"
	"slices"
	"testing"

	"draghead/api"
	"draghead/sounding"
)

// at is a sounding at a place.
func at(number, x, y, lo, hi int) api.Sounding {
	return api.Sounding{Number: number, X: x, Y: y, Lo: lo, Hi: hi}
}

// example is the sheet of the chapter's examples.
func example() []api.Sounding {
	return []api.Sounding{at(1, 0, 0, -510, -500), at(2, 30, 40, -480, -470), at(3, 60, 80, -460, -450), at(4, 900, 0, -900, -890)}
}

// line is a sheet with n soundings, numbered from 1 on, each one 1000 behind the other.
func line(n int) []api.Sounding {
	var out []api.Sounding
	for i := range n {
		out = append(out, at(i+1, 1000*i, 0, -i-1, -i))
	}
	return out
}

// numbers is a sequence that looks irregular and is always the same.
type numbers struct{ state uint64 }

// next is a number from 0 to below n.
func (s *numbers) next(n int) int {
	s.state = s.state*6364136223846793005 + 1442695040888963407
	return int(s.state>>33) % n
}

// around is a number from -most to most.
func (s *numbers) around(most int) int {
	return s.next(2*most+1) - most
}

// distinct is n different numbers of soundings, in no order.
func (s *numbers) distinct(n int) []int {
	var out []int
	for len(out) < n {
		if v := 1 + s.next(3*n); !slices.Contains(out, v) {
			out = append(out, v)
		}
	}
	return out
}

// sheet is at most n soundings with places and levels that often coincide.
func (s *numbers) sheet(n, far int) []api.Sounding {
	var out []api.Sounding
	for _, number := range s.distinct(s.next(n + 1)) {
		lo := s.around(12) - 500
		out = append(out, at(number, s.around(far), s.around(far), lo, lo+s.next(6)))
	}
	return out
}

// find is the sounding with a number.
func find(l []api.Sounding, number int) (api.Sounding, bool) {
	for _, s := range l {
		if s.Number == number {
			return s, true
		}
	}
	return api.Sounding{}, false
}

// apart is the squared distance of two soundings.
func apart(a, b api.Sounding) int {
	return (a.X-b.X)*(a.X-b.X) + (a.Y-b.Y)*(a.Y-b.Y)
}

// ascending is a sheet in the order of its numbers.
func ascending(l []api.Sounding) []api.Sounding {
	out := slices.Clone(l)
	slices.SortFunc(out, func(a, b api.Sounding) int { return a.Number - b.Number })
	return out
}

// floorHalf is half of a number, rounded down.
func floorHalf(n int) int {
	return int(math.Floor(float64(n) / 2))
}

// same fails the test if got is not want.
func same[T comparable](t *testing.T, got, want T, what string, about ...any) {
	t.Helper()
	if got != want {
		t.Errorf("%s %v: %v instead of %v", what, about, got, want)
	}
}

// sameList fails the test if the elements of got are not those of want.
func sameList[T comparable](t *testing.T, got, want []T, what string, about ...any) {
	t.Helper()
	if !slices.Equal(got, want) {
		t.Errorf("%s %v: %v instead of %v", what, about, got, want)
	}
}

// sameThinned fails the test if got is not want.
func sameThinned(t *testing.T, got, want api.Thinned, what string, about ...any) {
	t.Helper()
	sameList(t, got.Kept, want.Kept, what+": Kept", about...)
	sameList(t, got.Guards, want.Guards, what+": Guards", about...)
}

// sameGrid fails the test if got is not want.
func sameGrid(t *testing.T, got, want api.Grid, what string, about ...any) {
	t.Helper()
	sameList(t, cellsOf(got), cellsOf(want), what+": the cells", about...)
	sameList(t, got.Levels, want.Levels, what+": the levels", about...)
}

func cellsOf(g api.Grid) []int { return []int{g.X, g.Y, g.Side, g.Cols, g.Rows} }

// isEmpty reports whether a grid is the zero value.
func isEmpty(g api.Grid) bool {
	return slices.Equal(cellsOf(g), make([]int, 5)) && len(g.Levels) == 0
}

// answer is what a call returned: whether all results beside the error are zero values, and the error.
type answer struct {
	empty bool
	e     api.Errno
}

// refused is the answer of a call that returns only an error.
func refused(e api.Errno) answer { return answer{true, e} }

// listed is the answer of a call that returns a list.
func listed[T any](l []T, e api.Errno) answer { return answer{len(l) == 0, e} }

func ofThinned(t api.Thinned, e api.Errno) answer {
	return answer{len(t.Kept) == 0 && len(t.Guards) == 0, e}
}

func ofGrid(g api.Grid, e api.Errno) answer { return answer{isEmpty(g), e} }

func ofText(s string, e api.Errno) answer { return answer{s == "", e} }

func ofRaw(r api.Raw, e api.Errno) answer { return answer{r == api.Raw{}, e} }

func ofSounding(s api.Sounding, e api.Errno) answer { return answer{s == api.Sounding{}, e} }

func ofReduced(l []api.Sounding, n []int, e api.Errno) answer {
	return answer{len(l) == 0 && len(n) == 0, e}
}

// sheetCalls calls every function with a sheet; whatever else it is given is wrong where that is possible.
func sheetCalls(l []api.Sounding) map[string]answer {
	wrong := []api.Sounding{{Number: -1}}
	return map[string]answer{
		"Check":        refused(sounding.Check(l)),
		"Near":         listed(sounding.Near(l, api.Point{X: math.MaxInt}, -1)),
		"Spikes":       listed(sounding.Spikes(l, api.Spike{Count: -1})),
		"Without":      listed(sounding.Without(l, []int{-1})),
		"Cross":        listed(sounding.Cross(l, wrong, -1)),
		"Cross behind": listed(sounding.Cross(nil, l, -1)),
		"Thin":         ofThinned(sounding.Thin(l, -1)),
		"CheckThin":    refused(sounding.CheckThin(l, -1, api.Thinned{Kept: []int{-1}})),
		"Keep":         listed(sounding.Keep(l, api.Thinned{Kept: []int{-1}})),
		"Bin":          ofGrid(sounding.Bin(l, api.Grid{})),
		"Floor":        ofGrid(sounding.Floor(l, api.Grid{})),
		"Count":        listed(sounding.Count(l, api.Grid{})),
		"Merge":        listed(sounding.Merge(l, wrong)),
		"Merge behind": listed(sounding.Merge(example(), l)),
		"Shift":        listed(sounding.Shift(l, math.MaxInt)),
		"Sheet":        ofText(sounding.Sheet(l)),
	}
}

// allRefused fails the test unless all calls return this error and nothing else.
func allRefused(t *testing.T, calls map[string]answer, want api.Errno, about ...any) {
	t.Helper()
	for name, got := range calls {
		same(t, got, refused(want), name, about...)
	}
}
