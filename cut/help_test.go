package cut_test

import (
	"maps"
	"math"
	"reflect"
	"slices"
	"testing"

	"draghead/api"
	"draghead/cut"
)

const (
	u        = api.Unknown
	highest  = api.MaxLevel
	farthest = api.MaxPlace
	latest   = api.MaxMinute
)

// example is the site of the chapter's examples, with these levels.
func example(levels ...int) api.Site {
	return api.Site{
		Bed:      row(levels...),
		Ground:   api.Ground{Soils: []api.Soil{kind("sand", 100)}, Borings: []api.Boring{boring("B", 0, 0, layer(0, "sand"))}},
		Gauges:   []api.Gauge{gauge("g", 0, 0, mark(0, 0), mark(100000, 0))},
		Dredgers: []api.Dredger{cutter()},
	}
}

// level is the site of the examples with the levels that they mostly have.
func level() api.Site { return example(-500, -500, -500) }

// wide is this site with so many columns and rows.
func wide(cols, rows int) api.Site {
	s := level()
	s.Bed = flat(frame(0, 0, 1000, cols, rows), -500)
	return s
}

// cutter is the dredger of the examples.
func cutter() api.Dredger {
	return api.Dredger{Name: "c", Depth: 1000, Across: 2, Along: 1, Bite: 200, Hour: 6000, Outputs: []api.Output{output("sand", 100, 50)}}
}

// named is the dredger of the examples with another name.
func named(name string) api.Dredger {
	d := cutter()
	d.Name = name
	return d
}

func output(soil string, rate, wear int) api.Output {
	return api.Output{Soil: soil, Rate: rate, Wear: wear}
}

// row is a grid of one row with the side 1000.
func row(levels ...int) api.Grid { return with(frame(0, 0, 1000, len(levels), 1), levels...) }

// frame is a grid without levels.
func frame(x, y, side, cols, rows int) api.Grid {
	return api.Grid{X: x, Y: y, Side: side, Cols: cols, Rows: rows}
}

// with is a grid with levels.
func with(g api.Grid, levels ...int) api.Grid {
	g.Levels = levels
	return g
}

// flat is a grid with one level everywhere.
func flat(g api.Grid, level int) api.Grid {
	return with(g, slices.Repeat([]int{level}, g.Cols*g.Rows)...)
}

// strip is a cut of columns of the row 0.
func strip(name string, col, cols, level, start int) api.Cut {
	return area(name, col, 0, cols, 1, level, start)
}

// area is a cut of columns and rows.
func area(name string, col, row, cols, rows, level, start int) api.Cut {
	return api.Cut{Name: name, Dredger: "c", Col: col, Row: row, Cols: cols, Rows: rows, Level: level, Start: start}
}

// by is the same cut with another dredger.
func by(c api.Cut, dredger string) api.Cut {
	c.Dredger = dredger
	return c
}

func kind(name string, run int) api.Soil {
	return api.Soil{Name: name, Run: run, Density: 1900, Bulk: api.Frac{Num: 1, Den: 1}}
}

func boring(name string, x, y int, l ...api.Layer) api.Boring {
	return api.Boring{Name: name, X: x, Y: y, Layers: l}
}

func layer(top int, soil string) api.Layer { return api.Layer{Top: top, Soil: soil} }

func zone(name string, corners ...int) api.Region {
	return api.Region{Name: name, Corners: points(corners...)}
}

// quay is a quay with the ends (ax, ay) and (bx, by).
func quay(name string, ax, ay, bx, by, level, run int) api.Quay {
	return api.Quay{Name: name, A: at(ax, ay), B: at(bx, by), Level: level, Run: run}
}

func gauge(name string, x, err int, marks ...api.Mark) api.Gauge {
	return api.Gauge{Name: name, X: x, Error: err, Marks: marks}
}

func mark(minute, level int) api.Mark { return api.Mark{Minute: minute, Level: level} }

func at(x, y int) api.Point { return api.Point{X: x, Y: y} }

// points makes a list of pairs of coordinates.
func points(l ...int) []api.Point {
	var out []api.Point
	for i := 0; i+1 < len(l); i += 2 {
		out = append(out, at(l[i], l[i+1]))
	}
	return out
}

func letter(k int) string { return string(rune('a' + k)) }

// violation is that of the cut at, at a cell.
func violation(at, cell int, rule api.Errno) api.Violation {
	return api.Violation{At: at, Cell: cell, Rule: rule}
}

// same fails the test if got is not want.
func same[T comparable](t *testing.T, got, want T, what string, about ...any) {
	t.Helper()
	if got != want {
		t.Errorf("%s %v: %v instead of %v", what, about, got, want)
	}
}

// sameList fails the test if the elements of got are not those of want.
func sameList[T comparable](t *testing.T, got, want []T, what string, about ...any) {
	t.Helper()
	if !slices.Equal(got, want) {
		t.Errorf("%s %v: %v instead of %v", what, about, got, want)
	}
}

// sameGrid fails the test if got is not want.
func sameGrid(t *testing.T, got, want api.Grid, what string, about ...any) {
	t.Helper()
	sameList(t, frameOf(got), frameOf(want), what+": the cells", about...)
	sameList(t, got.Levels, want.Levels, what+": the levels", about...)
}

func frameOf(g api.Grid) []int { return []int{g.X, g.Y, g.Side, g.Cols, g.Rows} }

// sameProof fails the test if got is not want.
func sameProof(t *testing.T, got, want []api.Blocked, what string, about ...any) {
	t.Helper()
	equal := func(a, b api.Blocked) bool { return a.Set == b.Set && slices.Equal(a.Rules, b.Rules) }
	if !slices.EqualFunc(got, want, equal) {
		t.Errorf("%s %v: %v instead of %v", what, about, got, want)
	}
}

// answer is what a call returned: whether all results beside the error are zero values, and the error.
type answer struct {
	empty bool
	e     api.Errno
}

// refused is the answer of a call that returns only an error.
func refused(e api.Errno) answer { return answer{true, e} }

// of is the answer of a call with one result and an error.
func of[T any](result T, e api.Errno) answer {
	return answer{isEmpty(reflect.ValueOf(result)), e}
}

// ofTwo is the answer of a call with two results and an error.
func ofTwo[T, U any](result T, other U, e api.Errno) answer {
	return answer{isEmpty(reflect.ValueOf(result)) && isEmpty(reflect.ValueOf(other)), e}
}

// isEmpty reports whether a value is the zero value; lists may be empty.
func isEmpty(v reflect.Value) bool {
	switch v.Kind() {
	case reflect.Slice:
		return v.Len() == 0
	case reflect.Struct:
		for i := range v.NumField() {
			if !isEmpty(v.Field(i)) {
				return false
			}
		}
		return true
	}
	return v.IsZero()
}

// siteCalls calls every function with a site; whatever else it is given is wrong.
func siteCalls(s api.Site) map[string]answer {
	out := map[string]answer{
		"CheckSite": refused(cut.CheckSite(s)),
		"Safe":      of(cut.Safe(s, "?")),
		"Greatest":  of(cut.Greatest(s, math.MinInt)),
	}
	maps.Copy(out, listCalls(s, make([]api.Cut, api.MaxCuts+1)))
	maps.Copy(out, oneCalls(s, api.Cut{}))
	return out
}

// listCalls calls every function with a site and cuts; whatever else it is given is wrong.
func listCalls(s api.Site, l []api.Cut) map[string]answer {
	out := map[string]answer{
		"CheckCuts":      refused(cut.CheckCuts(s, l)),
		"After":          of(cut.After(s, l, math.MinInt)),
		"First":          ofTwo(cut.First(s, l)),
		"CheckPlan":      refused(cut.CheckPlan(s, l)),
		"CheckViolation": refused(cut.CheckViolation(s, l, violation(-1, -1, -1))),
		"Times":          of(cut.Times(s, l)),
		"Cost":           of(cut.Cost(s, l)),
	}
	maps.Copy(out, orderCalls(s, l))
	return out
}

// orderCalls calls every function that puts cuts in order.
func orderCalls(s api.Site, l []api.Cut) map[string]answer {
	return map[string]answer{
		"Ordered":      ofTwo(cut.Ordered(s, l)),
		"CheckBlocked": refused(cut.CheckBlocked(s, l, []api.Blocked{{Set: -1}})),
		"Cheapest":     ofTwo(cut.Cheapest(s, l)),
	}
}

// oneCalls calls every function with a site and a single cut; the bed is wrong.
func oneCalls(s api.Site, c api.Cut) map[string]answer {
	out := bedCalls(s, api.Grid{Side: -1}, c)
	out["Footprint"] = of(cut.Footprint(s, c))
	return out
}

// bedCalls calls every function with a site, a bed and a cut.
func bedCalls(s api.Site, m api.Grid, c api.Cut) map[string]answer {
	return map[string]answer{
		"Lowered": of(cut.Lowered(s, m, c)),
		"Taken":   of(cut.Taken(s, m, c)),
		"Minutes": of(cut.Minutes(s, m, c)),
		"Price":   of(cut.Price(s, m, c)),
		"Refusal": ofTwo(cut.Refusal(s, m, c)),
	}
}

// allRefused fails the test unless all calls return this error and nothing else.
func allRefused(t *testing.T, calls map[string]answer, want api.Errno, about ...any) {
	t.Helper()
	for name, got := range calls {
		same(t, got, refused(want), name, about...)
	}
}
