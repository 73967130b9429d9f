package channel_test

import (
	"math"
	"math/big"
	"reflect"
	"slices"
	"testing"

	"draghead/api"
	"draghead/channel"
	"draghead/geometry"
)

const (
	u        = api.Unknown
	farthest = api.MaxPlace
	highest  = api.MaxLevel
)

// example is the channel of the chapter's examples.
func example() api.Channel {
	return straight(axis(0, 0, 1000, -1000, 4), axis(10000, 0, 1000, -1000, 4))
}

// straight is the channel of the examples with another axis.
func straight(l ...api.AxisPoint) api.Channel {
	return api.Channel{Name: "Main", Over: 30, Axis: l}
}

// bent has a right angle, a bottom that becomes wider and deeper, vertical sides first, and then steep ones.
func bent() api.Channel {
	return api.Channel{Name: "Bent", Axis: []api.AxisPoint{axis(0, 0, 300, -800, 0), axis(4000, 0, 500, -1000, 2), axis(4000, 3000, 500, -1000, 2)}}
}

func axis(x, y, half, level, run int) api.AxisPoint {
	return api.AxisPoint{X: x, Y: y, Half: half, Level: level, Run: run}
}

// region is a region with pairs of coordinates.
func region(name string, kind int, l ...int) api.Region {
	return api.Region{Name: name, Kind: kind, Corners: points(l...)}
}

// block is a region that is a rectangle.
func block(name string, kind, left, below, right, above int) api.Region {
	return region(name, kind, left, below, right, below, right, above, left, above)
}

// having is a channel with these regions.
func having(c api.Channel, l ...api.Region) api.Channel {
	c.Regions = l
	return c
}

// strip is the grid of the examples.
func strip(level int) api.Grid { return flat(frame(0, -250, 500, 20, 1), level) }

// frame is a grid without levels.
func frame(x, y, side, cols, rows int) api.Grid {
	return api.Grid{X: x, Y: y, Side: side, Cols: cols, Rows: rows}
}

// with is a grid with levels.
func with(g api.Grid, levels ...int) api.Grid {
	g.Levels = levels
	return g
}

// flat is a grid with one level everywhere.
func flat(g api.Grid, level int) api.Grid {
	return with(g, slices.Repeat([]int{level}, g.Cols*g.Rows)...)
}

func at(x, y int) api.Point { return api.Point{X: x, Y: y} }

// points makes a list of pairs of coordinates.
func points(l ...int) []api.Point {
	var out []api.Point
	for i := 0; i+1 < len(l); i += 2 {
		out = append(out, at(l[i], l[i+1]))
	}
	return out
}

func placeOf(a api.AxisPoint) api.Point { return at(a.X, a.Y) }

// centreOf is the centre of a cell.
func centreOf(g api.Grid, i int) api.Point {
	return at(g.X+i%g.Cols*g.Side+g.Side/2, g.Y+i/g.Cols*g.Side+g.Side/2)
}

// held is a place as a leg or bend holds it.
type held struct{ chainage, offset, half, bottom, run int }

// hold is the definitions of the chapter, computed with numbers of any size.
func hold(c api.Channel, p api.Point) []held {
	var legs, bends []held
	chainage := 0
	for i := 1; i < len(c.Axis); i++ {
		from, to := c.Axis[i-1], c.Axis[i]
		a, b := placeOf(from), placeOf(to)
		d, s, span := dot(a, b, p), dot(a, b, b), root(dot(a, b, b))
		rest := new(big.Int).Sub(s, d)
		if d.Sign() >= 0 && rest.Sign() >= 0 {
			legs = append(legs, held{
				chainage + down(d, span), down(new(big.Int).Abs(turn(a, b, p)), span),
				down(mix(from.Half, rest, to.Half, d), s), down(mix(from.Level, rest, to.Level, d), s), from.Run,
			})
		}
		chainage += int(span.Int64())
		if i+1 < len(c.Axis) && rest.Sign() < 0 && dot(b, placeOf(c.Axis[i+1]), p).Sign() < 0 {
			bends = append(bends, held{chainage, int(root(dot(b, p, p)).Int64()), to.Half, to.Level, to.Run})
		}
	}
	return append(legs, bends...)
}

// dot is the scalar product of the ways from a to b and from a to p.
func dot(a, b, p api.Point) *big.Int {
	return mix(b.X-a.X, big.NewInt(int64(p.X-a.X)), b.Y-a.Y, big.NewInt(int64(p.Y-a.Y)))
}

// turn is their cross product.
func turn(a, b, p api.Point) *big.Int {
	return mix(b.X-a.X, big.NewInt(int64(p.Y-a.Y)), a.Y-b.Y, big.NewInt(int64(p.X-a.X)))
}

// mix is m * x + n * y.
func mix(m int, x *big.Int, n int, y *big.Int) *big.Int {
	one, other := new(big.Int).Mul(big.NewInt(int64(m)), x), new(big.Int).Mul(big.NewInt(int64(n)), y)
	return one.Add(one, other)
}

// down is a quotient by a positive number, rounded down.
func down(n, by *big.Int) int { return int(new(big.Int).Div(n, by).Int64()) }

// root is the square root, rounded up.
func root(n *big.Int) *big.Int {
	out := new(big.Int).Sqrt(n)
	if new(big.Int).Mul(out, out).Cmp(n) < 0 {
		out.Add(out, big.NewInt(1))
	}
	return out
}

// level is the design level of what holds a place, or Unknown.
func (h held) level() int {
	switch {
	case h.offset <= h.half:
		return h.bottom
	case h.run == 0 || h.bottom+(h.offset-h.half)/h.run > highest:
		return u
	}
	return h.bottom + (h.offset-h.half)/h.run
}

// design is the least level of all that hold a place, or Unknown; and whether it is on the bottom.
func design(c api.Channel, p api.Point) (level int, isBottom bool) {
	level = u
	for _, h := range hold(c, p) {
		level = min(level, h.level())
		isBottom = isBottom || h.offset <= h.half
	}
	return level, isBottom
}

// bottom is the cells on the bottom.
func bottom(c api.Channel, g api.Grid) []int {
	var out []int
	for i := range g.Levels {
		if _, is := design(c, centreOf(g, i)); is {
			out = append(out, i)
		}
	}
	return out
}

// numbers is a sequence that looks irregular and is always the same.
type numbers struct{ state uint64 }

// next is a number from 0 to below n.
func (s *numbers) next(n int) int {
	s.state = s.state*6364136223846793005 + 1442695040888963407
	return int(s.state>>33) % n
}

// around is a number from -most to most.
func (s *numbers) around(most int) int {
	return s.next(2*most+1) - most
}

// channel is a channel whose places have coordinates up to most.
func (s *numbers) channel(most int) api.Channel {
	c := api.Channel{Name: s.name(), Over: s.next(80), Buffer: s.next(min(most/4, 100000))}
	for len(c.Axis) < 2+s.next(4) {
		a := axis(s.around(most), s.around(most), 1+s.next(min(most/2, 100000)), s.around(400)-900, s.next(7))
		if n := len(c.Axis); n == 0 || placeOf(c.Axis[n-1]) != placeOf(a) {
			c.Axis = append(c.Axis, a)
		}
	}
	return c
}

// regions is a channel with regions.
func (s *numbers) regions(c api.Channel, most int) api.Channel {
	for k := range 1 + s.next(4) {
		r := api.Region{Name: string(rune('A'+k)) + s.name(), Kind: s.next(4)}
		r.Name = r.Name[:min(len(r.Name), 12)]
		for geometry.CheckPolygon(r.Corners) != api.OK {
			r.Corners = nil
			for range 3 + s.next(3) {
				r.Corners = append(r.Corners, at(s.around(most), s.around(most)))
			}
		}
		c.Regions = append(c.Regions, r)
	}
	return c
}

// name is a name.
func (s *numbers) name() string {
	const letters = "ABCXYZabcxyz"
	const others = letters + "0189-"
	out := string(letters[s.next(len(letters))])
	for range s.next(12) {
		out += string(others[s.next(len(others))])
	}
	return out
}

// grid is a grid near a channel whose places have coordinates up to most.
func (s *numbers) grid(most int) api.Grid {
	g := frame(s.around(most), s.around(most), min(100+s.next(most/4), 10000), 1+s.next(7), 1+s.next(7))
	g.X, g.Y = min(g.X, farthest-7*g.Side), min(g.Y, farthest-7*g.Side)
	return s.again(g)
}

// again is a grid with the same cells and other levels.
func (s *numbers) again(g api.Grid) api.Grid {
	g.Levels = nil
	for range g.Cols * g.Rows {
		if s.next(6) == 0 {
			g.Levels = append(g.Levels, u)
		} else {
			g.Levels = append(g.Levels, s.around(400)-800)
		}
	}
	return g
}

// same fails the test if got is not want.
func same[T comparable](t *testing.T, got, want T, what string, about ...any) {
	t.Helper()
	if got != want {
		t.Errorf("%s %v: %v instead of %v", what, about, got, want)
	}
}

// sameList fails the test if the elements of got are not those of want.
func sameList[T comparable](t *testing.T, got, want []T, what string, about ...any) {
	t.Helper()
	if !slices.Equal(got, want) {
		t.Errorf("%s %v: %v instead of %v", what, about, got, want)
	}
}

// sameGrid fails the test if got is not want.
func sameGrid(t *testing.T, got, want api.Grid, what string, about ...any) {
	t.Helper()
	sameList(t, frameOf(got), frameOf(want), what+": the cells", about...)
	sameList(t, got.Levels, want.Levels, what+": the levels", about...)
}

func frameOf(g api.Grid) []int { return []int{g.X, g.Y, g.Side, g.Cols, g.Rows} }

// sameChannel fails the test if got is not want.
func sameChannel(t *testing.T, got, want api.Channel, what string, about ...any) {
	t.Helper()
	same(t, got.Name, want.Name, what+": the name", about...)
	sameList(t, []int{got.Over, got.Buffer}, []int{want.Over, want.Buffer}, what+": allowance and buffer", about...)
	sameList(t, got.Axis, want.Axis, what+": the axis", about...)
	same(t, len(got.Regions), len(want.Regions), what+": the regions", about...)
	for k := range min(len(got.Regions), len(want.Regions)) {
		same(t, got.Regions[k].Name, want.Regions[k].Name, what+": the name of a region", about...)
		same(t, got.Regions[k].Kind, want.Regions[k].Kind, what+": the kind of a region", about...)
		sameList(t, got.Regions[k].Corners, want.Regions[k].Corners, what+": the corners of a region", about...)
	}
}

// answer is what a call returned: whether all results beside the error are zero values, and the error.
type answer struct {
	empty bool
	e     api.Errno
}

// refused is the answer of a call that returns only an error.
func refused(e api.Errno) answer { return answer{true, e} }

// of is the answer of a call with one result and an error.
func of[T any](result T, e api.Errno) answer {
	return answer{isEmpty(reflect.ValueOf(result)), e}
}

// isEmpty reports whether a value is the zero value; lists may be empty.
func isEmpty(v reflect.Value) bool {
	switch v.Kind() {
	case reflect.Slice:
		return v.Len() == 0
	case reflect.Struct:
		for i := range v.NumField() {
			if !isEmpty(v.Field(i)) {
				return false
			}
		}
		return true
	}
	return v.IsZero()
}

func ofAlong(chainage, offset int, e api.Errno) answer {
	return answer{chainage == 0 && offset == 0, e}
}

// channelCalls calls every function with a channel; whatever else it is given is wrong.
func channelCalls(c api.Channel) map[string]answer {
	far, none := at(math.MaxInt, math.MinInt), frame(0, 0, 1, 1, 1)
	out := map[string]answer{
		"Check":   refused(channel.Check(c)),
		"Length":  of(channel.Length(c)),
		"Along":   ofAlong(channel.Along(c, far)),
		"Design":  of(channel.Design(c, far)),
		"Section": of(channel.Section(c, api.Station{Chainage: -1})),
		"Box":     of(channel.Box(c, -1)),
		"Deepen":  of(channel.Deepen(c, math.MinInt)),
		"Print":   of(channel.Print(c)),
	}
	for name, got := range gridCalls(c, none) {
		out[name] = got
	}
	return out
}

// gridCalls calls every function with a channel and a grid; the other one of two grids has other cells or is not valid.
func gridCalls(c api.Channel, g api.Grid) map[string]answer {
	out := map[string]answer{
		"DesignGrid":    of(channel.DesignGrid(c, g)),
		"ToleranceGrid": of(channel.ToleranceGrid(c, g)),
		"Needed":        of(channel.Needed(c, g)),
		"Open":          of(channel.Open(c, g)),
		"Quantities":    of(channel.Quantities(c, g)),
		"Protected":     of(channel.Protected(c, g)),
		"Controlling":   of(channel.Controlling(c, g)),
		"Draught":       of(channel.Draught(c, g)),
	}
	for name, got := range twoCalls(c, g, api.Grid{Rows: -1}) {
		out[name+" before"] = got
	}
	for name, got := range twoCalls(c, flat(frame(7, 7, 107, 2, 1), 5), g) {
		out[name+" after"] = got
	}
	return out
}

// twoCalls calls every function with a channel and two grids.
func twoCalls(c api.Channel, before, after api.Grid) map[string]answer {
	return map[string]answer{
		"Paid":    of(channel.Paid(c, before, after)),
		"Overcut": of(channel.Overcut(c, before, after)),
	}
}

// allRefused fails the test unless all calls return this error and nothing else.
func allRefused(t *testing.T, calls map[string]answer, want api.Errno, about ...any) {
	t.Helper()
	for name, got := range calls {
		same(t, got, refused(want), name, about...)
	}
}
