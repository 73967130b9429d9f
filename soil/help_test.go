package soil_test

import (
	"math"
	"math/big"
	"reflect"
	"slices"
	"testing"

	"draghead/api"
	"draghead/soil"
)

const (
	u        = api.Unknown
	farthest = api.MaxPlace
	highest  = api.MaxLevel
)

// example is the ground of the chapter's examples.
func example() api.Ground {
	return api.Ground{Soils: []api.Soil{sand(), mud()}, Borings: []api.Boring{
		boring("B", 0, 0, layer(-500, "mud"), layer(-700, "sand")),
		boring("C", 1000, 0, layer(-600, "sand")),
	}}
}

func sand() api.Soil { return kind("sand", 30, 1900, 6, 5) }

func mud() api.Soil { return kind("mud", 100, 1300, 1, 1) }

func kind(name string, run, density, num, den int) api.Soil {
	return api.Soil{Name: name, Run: run, Density: density, Bulk: api.Frac{Num: num, Den: den}}
}

// soils is soils with names "a", "b" and so on, and these runs.
func soils(runs ...int) []api.Soil {
	var out []api.Soil
	for k, run := range runs {
		out = append(out, kind(letter(k), run, 1000, 1, 1))
	}
	return out
}

func letter(k int) string { return string(rune('a' + k)) }

func boring(name string, x, y int, l ...api.Layer) api.Boring {
	return api.Boring{Name: name, X: x, Y: y, Layers: l}
}

func layer(top int, soil string) api.Layer { return api.Layer{Top: top, Soil: soil} }

// with1 is the ground of the examples with one boring.
func with1(b api.Boring) api.Ground {
	return api.Ground{Soils: example().Soils, Borings: []api.Boring{b}}
}

// uniform is a ground with one soil that stands at this run.
func uniform(run int) api.Ground {
	return api.Ground{Soils: soils(run), Borings: []api.Boring{boring("B", 0, 0, layer(0, "a"))}}
}

// row is a grid of one row with the side 100.
func row(levels ...int) api.Grid { return with(frame(0, 0, 100, len(levels), 1), levels...) }

// pile is a grid of one column with the side 100.
func pile(levels ...int) api.Grid { return with(frame(0, 0, 100, 1, len(levels)), levels...) }

// frame is a grid without levels.
func frame(x, y, side, cols, rows int) api.Grid {
	return api.Grid{X: x, Y: y, Side: side, Cols: cols, Rows: rows}
}

// with is a grid with levels.
func with(g api.Grid, levels ...int) api.Grid {
	g.Levels = levels
	return g
}

// flat is a grid with one level everywhere.
func flat(g api.Grid, level int) api.Grid {
	return with(g, slices.Repeat([]int{level}, g.Cols*g.Rows)...)
}

// changed is a grid with other levels in some cells.
func changed(g api.Grid, level int, cells ...int) api.Grid {
	g.Levels = slices.Clone(g.Levels)
	for _, i := range cells {
		g.Levels[i] = level
	}
	return g
}

func at(x, y int) api.Point { return api.Point{X: x, Y: y} }

// points makes a list of pairs of coordinates.
func points(l ...int) []api.Point {
	var out []api.Point
	for i := 0; i+1 < len(l); i += 2 {
		out = append(out, at(l[i], l[i+1]))
	}
	return out
}

// centreOf is the centre of a cell.
func centreOf(g api.Grid, i int) api.Point {
	return at(g.X+i%g.Cols*g.Side+g.Side/2, g.Y+i/g.Cols*g.Side+g.Side/2)
}

// beside reports whether two cells have a side in common.
func beside(g api.Grid, i, j int) bool {
	across, along := i%g.Cols-j%g.Cols, i/g.Cols-j/g.Cols
	return across*across+along*along == 1
}

// known is a function that tells the known cells of a grid.
func known(g api.Grid, i int) bool { return g.Levels[i] != u }

// boringAt is the boring of a place.
func boringAt(g api.Ground, p api.Point) api.Boring {
	far := func(b api.Boring) int { return (b.X-p.X)*(b.X-p.X) + (b.Y-p.Y)*(b.Y-p.Y) }
	return slices.MinFunc(g.Borings, func(a, b api.Boring) int { return far(a) - far(b) })
}

// soilOf is the soil at a place and level.
func soilOf(g api.Ground, p api.Point, level int) string {
	l := boringAt(g, p).Layers
	for k := len(l) - 1; k > 0; k-- {
		if l[k].Top >= level {
			return l[k].Soil
		}
	}
	return l[0].Soil
}

// allowed is the allowed difference of two cells.
func allowed(g api.Ground, m api.Grid, a, b int) int {
	run := 0
	for _, i := range []int{a, b} {
		for _, l := range boringAt(g, centreOf(m, i)).Layers {
			k := slices.IndexFunc(g.Soils, func(s api.Soil) bool { return s.Name == l.Soil })
			run = max(run, g.Soils[k].Run)
		}
	}
	return 10 * m.Side / run
}

// dot is the scalar product of the ways from a to b and from a to p.
func dot(a, b, p api.Point) *big.Int {
	return mix(b.X-a.X, p.X-a.X, b.Y-a.Y, p.Y-a.Y)
}

// turn is their cross product.
func turn(a, b, p api.Point) *big.Int {
	return mix(b.X-a.X, p.Y-a.Y, a.Y-b.Y, p.X-a.X)
}

// mix is m * x + n * y.
func mix(m, x, n, y int) *big.Int {
	return new(big.Int).Add(times(m, x), times(n, y))
}

func times(m, x int) *big.Int {
	return new(big.Int).Mul(big.NewInt(int64(m)), big.NewInt(int64(x)))
}

// down is a quotient by a positive number, rounded down.
func down(n, by *big.Int) int { return int(new(big.Int).Div(n, by).Int64()) }

// root is the square root, rounded up.
func root(n *big.Int) *big.Int {
	out := new(big.Int).Sqrt(n)
	if new(big.Int).Mul(out, out).Cmp(n) < 0 {
		out.Add(out, big.NewInt(1))
	}
	return out
}

// numbers is a sequence that looks irregular and is always the same.
type numbers struct{ state uint64 }

// next is a number from 0 to below n.
func (s *numbers) next(n int) int {
	s.state = s.state*6364136223846793005 + 1442695040888963407
	return int(s.state>>33) % n
}

// around is a number from -most to most.
func (s *numbers) around(most int) int {
	return s.next(2*most+1) - most
}

// ground is a ground whose places have coordinates up to most.
func (s *numbers) ground(most int) api.Ground {
	var g api.Ground
	for k := range 1 + s.next(5) {
		den := 1 + s.next(100)
		g.Soils = append(g.Soils, kind(letter(k), 1+s.next([]int{20, 200, 1000}[s.next(3)]), 1+s.next(5000), den+s.next(100), den))
	}
	for k := range 1 + s.next(5) {
		b := boring(letter(k), s.around(most), s.around(most))
		top := s.around(200) - 300
		for range 1 + s.next(5) {
			b.Layers = append(b.Layers, layer(top, letter(s.next(len(g.Soils)))))
			top -= 1 + s.next(200)
		}
		g.Borings = append(g.Borings, b)
	}
	return g
}

// grid is a grid at a place with coordinates up to most, with at most so many columns and rows.
func (s *numbers) grid(most, cells int) api.Grid {
	g := frame(s.around(most), s.around(most), 100+s.next(500), 1+s.next(cells), 1+s.next(cells))
	g.X, g.Y = min(g.X, farthest-g.Cols*g.Side), min(g.Y, farthest-g.Rows*g.Side)
	return s.again(g)
}

// again is a grid with the same cells and other levels.
func (s *numbers) again(g api.Grid) api.Grid {
	g.Levels = nil
	for range g.Cols * g.Rows {
		if s.next(6) == 0 {
			g.Levels = append(g.Levels, u)
		} else {
			g.Levels = append(g.Levels, s.around(300)-600)
		}
	}
	return g
}

// same fails the test if got is not want.
func same[T comparable](t *testing.T, got, want T, what string, about ...any) {
	t.Helper()
	if got != want {
		t.Errorf("%s %v: %v instead of %v", what, about, got, want)
	}
}

// sameList fails the test if the elements of got are not those of want.
func sameList[T comparable](t *testing.T, got, want []T, what string, about ...any) {
	t.Helper()
	if !slices.Equal(got, want) {
		t.Errorf("%s %v: %v instead of %v", what, about, got, want)
	}
}

// sameGrid fails the test if got is not want.
func sameGrid(t *testing.T, got, want api.Grid, what string, about ...any) {
	t.Helper()
	sameList(t, frameOf(got), frameOf(want), what+": the cells", about...)
	sameList(t, got.Levels, want.Levels, what+": the levels", about...)
}

func frameOf(g api.Grid) []int { return []int{g.X, g.Y, g.Side, g.Cols, g.Rows} }

// answer is what a call returned: whether all results beside the error are zero values, and the error.
type answer struct {
	empty bool
	e     api.Errno
}

// refused is the answer of a call that returns only an error.
func refused(e api.Errno) answer { return answer{true, e} }

// of is the answer of a call with one result and an error.
func of[T any](result T, e api.Errno) answer {
	return answer{isEmpty(reflect.ValueOf(result)), e}
}

// ofTwo is the answer of a call with two results and an error.
func ofTwo[T any](result T, n int, e api.Errno) answer {
	return answer{isEmpty(reflect.ValueOf(result)) && n == 0, e}
}

// isEmpty reports whether a value is the zero value; lists may be empty.
func isEmpty(v reflect.Value) bool {
	switch v.Kind() {
	case reflect.Slice:
		return v.Len() == 0
	case reflect.Struct:
		for i := range v.NumField() {
			if !isEmpty(v.Field(i)) {
				return false
			}
		}
		return true
	}
	return v.IsZero()
}

// groundCalls calls every function with a ground; whatever else it is given is wrong.
func groundCalls(g api.Ground) map[string]answer {
	far := at(math.MaxInt, math.MinInt)
	out := map[string]answer{
		"CheckGround": refused(soil.CheckGround(g)),
		"Nearest":     of(soil.Nearest(g, far)),
		"At":          of(soil.At(g, far, math.MaxInt)),
		"Column":      of(soil.Column(g, far, math.MinInt, math.MaxInt)),
	}
	for name, got := range gridCalls(g, frame(0, 0, 1, 1, 1)) {
		out[name] = got
	}
	return out
}

// gridCalls calls every function with a ground and a grid; whatever else it is given is wrong.
func gridCalls(g api.Ground, m api.Grid) map[string]answer {
	out := map[string]answer{
		"Allowed": of(soil.Allowed(g, m, -1, math.MaxInt)),
		"Steeps":  of(soil.Steeps(g, m)),
		"Slump":   ofTwo(soil.Slump(g, m)),
		"Heap":    ofTwo(soil.Heap(g, m)),
	}
	for name, got := range twoCalls(g, m, api.Grid{Rows: -1}) {
		out[name+" before"] = got
	}
	for name, got := range twoCalls(g, flat(frame(7, 7, 107, 2, 1), 5), m) {
		out[name+" after"] = got
	}
	return out
}

// twoCalls calls every function with a ground and two grids.
func twoCalls(g api.Ground, before, after api.Grid) map[string]answer {
	return map[string]answer{
		"Shares":     of(soil.Shares(g, before, after)),
		"CheckSlump": refused(soil.CheckSlump(g, before, after)),
	}
}

// quayCalls calls every function with a quay; the grid is wrong.
func quayCalls(q api.Quay) map[string]answer {
	out := frontCalls(q, frame(0, 0, 1, 1, 1))
	out["CheckQuay"] = refused(soil.CheckQuay(q))
	return out
}

// frontCalls calls every function with a quay and a grid.
func frontCalls(q api.Quay, m api.Grid) map[string]answer {
	return map[string]answer{
		"Wedge":      of(soil.Wedge(q, m)),
		"Undermined": of(soil.Undermined(q, m)),
	}
}

// sampleCalls calls every function with samples; whatever else it is given is wrong.
func sampleCalls(l []api.Sample) map[string]answer {
	return map[string]answer{
		"CheckSamples": refused(soil.CheckSamples(l)),
		"Class":        of(soil.Class(l, api.Standard{}, api.RankRule{})),
		"Worst":        of(soil.Worst(l, []api.Standard{{}}, api.RankRule{})),
		"Chosen":       of(soil.Chosen(l, nil, math.MinInt, math.MaxInt)),
	}
}

// allRefused fails the test unless all calls return this error and nothing else.
func allRefused(t *testing.T, calls map[string]answer, want api.Errno, about ...any) {
	t.Helper()
	for name, got := range calls {
		same(t, got, refused(want), name, about...)
	}
}
