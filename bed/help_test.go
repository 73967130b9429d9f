package bed_test

import (
	"math"
	"reflect"
	"slices"
	"testing"

	"draghead/api"
	"draghead/bed"
)

const (
	u        = api.Unknown
	farthest = api.MaxPlace
	highest  = api.MaxLevel
)

// example is the grid of the chapter's examples.
func example() api.Grid {
	return with(frame(0, 0, 100, 3, 2), -500, -300, -400, -600, u, -450)
}

// later is the cells of the example, sounded again.
func later() api.Grid {
	return with(frame(0, 0, 100, 3, 2), -500, -500, -350, -600, -700, -450)
}

// frame is a grid without levels.
func frame(x, y, side, cols, rows int) api.Grid {
	return api.Grid{X: x, Y: y, Side: side, Cols: cols, Rows: rows}
}

// with is a grid with levels.
func with(g api.Grid, levels ...int) api.Grid {
	g.Levels = levels
	return g
}

// flat is a grid with one level everywhere.
func flat(g api.Grid, level int) api.Grid {
	return with(g, slices.Repeat([]int{level}, g.Cols*g.Rows)...)
}

func at(x, y int) api.Point { return api.Point{X: x, Y: y} }

// points makes a list of pairs of coordinates.
func points(l ...int) []api.Point {
	var out []api.Point
	for i := 0; i+1 < len(l); i += 2 {
		out = append(out, at(l[i], l[i+1]))
	}
	return out
}

func node(x, y, level int) api.Node { return api.Node{X: x, Y: y, Level: level} }

func mesh(nodes []api.Node, triangles ...api.Triangle) api.Mesh {
	return api.Mesh{Nodes: nodes, Triangles: triangles}
}

// numbers is a sequence that looks irregular and is always the same.
type numbers struct{ state uint64 }

// next is a number from 0 to below n.
func (s *numbers) next(n int) int {
	s.state = s.state*6364136223846793005 + 1442695040888963407
	return int(s.state>>33) % n
}

// around is a number from -most to most.
func (s *numbers) around(most int) int {
	return s.next(2*most+1) - most
}

// level is one of few levels, or Unknown.
func (s *numbers) level(most int) int {
	if s.next(6) == 0 {
		return u
	}
	return s.around(most) - 500
}

// grid is a grid with at most so many columns and rows.
func (s *numbers) grid(cols, rows, most int) api.Grid {
	g := frame(s.around(5000), s.around(5000), 100+s.next(60), 1+s.next(cols), 1+s.next(rows))
	return s.again(g, most)
}

// again is a grid with the same cells and other levels.
func (s *numbers) again(g api.Grid, most int) api.Grid {
	g.Levels = nil
	for range g.Cols * g.Rows {
		g.Levels = append(g.Levels, s.level(most))
	}
	return g
}

// cells is from 1 to n cells of a grid, some perhaps twice.
func (s *numbers) cells(g api.Grid, n int) []int {
	var out []int
	for range 1 + s.next(n) {
		out = append(out, s.next(len(g.Levels)))
	}
	return out
}

// floor is a quotient, rounded down, for small numbers.
func floor(n, by int) int {
	return int(math.Floor(float64(n) / float64(by)))
}

// known is the known cells of a grid.
func known(g api.Grid) []int {
	var out []int
	for i, level := range g.Levels {
		if level != u {
			out = append(out, i)
		}
	}
	return out
}

// same fails the test if got is not want.
func same[T comparable](t *testing.T, got, want T, what string, about ...any) {
	t.Helper()
	if got != want {
		t.Errorf("%s %v: %v instead of %v", what, about, got, want)
	}
}

// sameList fails the test if the elements of got are not those of want.
func sameList[T comparable](t *testing.T, got, want []T, what string, about ...any) {
	t.Helper()
	if !slices.Equal(got, want) {
		t.Errorf("%s %v: %v instead of %v", what, about, got, want)
	}
}

// sameGrid fails the test if got is not want.
func sameGrid(t *testing.T, got, want api.Grid, what string, about ...any) {
	t.Helper()
	sameList(t, frameOf(got), frameOf(want), what+": the cells", about...)
	sameList(t, got.Levels, want.Levels, what+": the levels", about...)
}

func frameOf(g api.Grid) []int { return []int{g.X, g.Y, g.Side, g.Cols, g.Rows} }

// sameMesh fails the test if got is not want.
func sameMesh(t *testing.T, got, want api.Mesh, what string, about ...any) {
	t.Helper()
	sameList(t, got.Nodes, want.Nodes, what+": the nodes", about...)
	sameList(t, got.Triangles, want.Triangles, what+": the triangles", about...)
}

// answer is what a call returned: whether all results beside the error are zero values, and the error.
type answer struct {
	empty bool
	e     api.Errno
}

// refused is the answer of a call that returns only an error.
func refused(e api.Errno) answer { return answer{true, e} }

// of is the answer of a call with one result and an error.
func of[T any](result T, e api.Errno) answer {
	return answer{isEmpty(reflect.ValueOf(result)), e}
}

// isEmpty reports whether a value is the zero value; lists may be empty.
func isEmpty(v reflect.Value) bool {
	switch v.Kind() {
	case reflect.Slice:
		return v.Len() == 0
	case reflect.Struct:
		for i := range v.NumField() {
			if !isEmpty(v.Field(i)) {
				return false
			}
		}
		return true
	}
	return v.IsZero()
}

func ofAbove(volume, cells int, e api.Errno) answer {
	return answer{volume == 0 && cells == 0, e}
}

// gridCalls calls every function with a grid; whatever else it is given is wrong where that is possible.
func gridCalls(g api.Grid) map[string]answer {
	far := at(math.MaxInt, math.MinInt)
	out := map[string]answer{
		"Check":      refused(bed.Check(g)),
		"Blank":      of(bed.Blank(g)),
		"Cell":       of(bed.Cell(g, far)),
		"Centre":     of(bed.Centre(g, -1)),
		"Near":       of(bed.Near(g, -1)),
		"Level":      of(bed.Level(g, far)),
		"Within":     of(bed.Within(g, nil)),
		"Highest":    of(bed.Highest(g, []int{-1})),
		"Profile":    of(bed.Profile(g, far, far, 0)),
		"Above":      ofAbove(bed.Above(g, math.MaxInt)),
		"Contour":    of(bed.Contour(g, math.MinInt)),
		"Clear":      of(bed.Clear(g, nil, nil)),
		"CheckClear": refused(bed.CheckClear(g, api.Way{})),
		"Squares":    of(bed.Squares(g)),
		"Print":      of(bed.Print(g)),
	}
	for name, got := range twoCalls(g, api.Grid{Rows: -1}) {
		out[name+" before"] = got
	}
	for name, got := range twoCalls(flat(frame(0, 0, 100, 2, 1), 5), g) {
		out[name+" after"] = got
	}
	return out
}

// twoCalls calls every function with two grids.
func twoCalls(a, b api.Grid) map[string]answer {
	return map[string]answer{
		"Latest":   of(bed.Latest(a, b)),
		"Shoalest": of(bed.Shoalest(a, b)),
		"Compare":  of(bed.Compare(a, b)),
		"Strips":   of(bed.Strips(a, b)),
		"Slices":   of(bed.Slices(a, b, slices.Repeat([]int{u}, 21))),
	}
}

// meshCalls calls every function with a mesh; whatever else it is given is wrong where that is possible.
func meshCalls(m api.Mesh) map[string]answer {
	return map[string]answer{
		"CheckMesh":  refused(bed.CheckMesh(m)),
		"MeshLevel":  of(bed.MeshLevel(m, at(math.MaxInt, math.MinInt))),
		"MeshVolume": of(bed.MeshVolume(m, math.MaxInt)),
	}
}

// allRefused fails the test unless all calls return this error and nothing else.
func allRefused(t *testing.T, calls map[string]answer, want api.Errno, about ...any) {
	t.Helper()
	for name, got := range calls {
		same(t, got, refused(want), name, about...)
	}
}
