package channel_test

import (
	"math"
	"slices"
	"strings"
	"testing"

	"draghead/api"
	"draghead/channel"
)

func TestP51Names(t *testing.T) {
	for _, name := range []string{"A", "z", "Z", "a", "Main", "a-", "A0", "b9", "x--y", "twelve-longs", "Abcdefghijk9"} {
		c := example()
		c.Name = name
		same(t, channel.Check(c), api.OK, "Check", name)
		same(t, channel.Check(having(example(), block(name, 0, 0, 0, 5, 5))), api.OK, "Check of a region", name)
	}
	for _, name := range []string{
		"", "-", "0", "9a", "-a", " ", " a", "a ", "a b", "a_b", "a.b", "Aé", "é", "a\n", "a\x00", "\xff", "a\xff", "thirteen-long", strings.Repeat("a", 13),
		strings.Repeat("a", 5000), "@", "[", "`", "{", "A/", "A:", "A@", "A[", "A`", "A{", "A,", "\u0410", "A\u0661",
	} {
		c := example()
		c.Name = name
		same(t, channel.Check(c), api.ErrName, "Check", name)
		same(t, channel.Check(having(example(), block(name, 0, 0, 0, 5, 5))), api.ErrName, "Check of a region", name)
	}
}

// chain is n axis points.
func chain(n int) []api.AxisPoint {
	var out []api.AxisPoint
	for i := range n {
		out = append(out, axis(100*i, 0, 1, 0, 0))
	}
	return out
}

// blocks is n regions.
func blocks(n int) []api.Region {
	var out []api.Region
	for i := range n {
		out = append(out, block("R"+string(rune('a'+i)), i%4, 0, 0, 5, 5))
	}
	return out
}

func TestP51Check(t *testing.T) {
	const far = farthest
	for _, x := range []struct {
		change func(c *api.Channel)
		want   api.Errno
	}{
		{func(c *api.Channel) {}, api.OK},
		{func(c *api.Channel) { *c = api.Channel{} }, api.ErrName},
		{func(c *api.Channel) { *c = bent() }, api.OK},
		{func(c *api.Channel) { c.Over = 0 }, api.OK},
		{func(c *api.Channel) { c.Over = -1 }, api.ErrRange},
		{func(c *api.Channel) { c.Over = 1000 }, api.OK},
		{func(c *api.Channel) { c.Over = 1001 }, api.ErrRange},
		{func(c *api.Channel) { c.Over = math.MinInt }, api.ErrRange},
		{func(c *api.Channel) { c.Buffer = -1 }, api.ErrRange},
		{func(c *api.Channel) { c.Buffer = 100000 }, api.OK},
		{func(c *api.Channel) { c.Buffer = 100001 }, api.ErrRange},
		{func(c *api.Channel) { c.Axis = nil }, api.ErrShape},
		{func(c *api.Channel) { c.Axis = chain(1) }, api.ErrShape},
		{func(c *api.Channel) { c.Axis = chain(2) }, api.OK},
		{func(c *api.Channel) { c.Axis = chain(20) }, api.OK},
		{func(c *api.Channel) { c.Axis = chain(21) }, api.ErrLarge},
		{func(c *api.Channel) { c.Axis[0].X = -far }, api.OK},
		{func(c *api.Channel) { c.Axis[0].X = -far - 1 }, api.ErrRange},
		{func(c *api.Channel) { c.Axis[1].X = far }, api.OK},
		{func(c *api.Channel) { c.Axis[1].X = far + 1 }, api.ErrRange},
		{func(c *api.Channel) { c.Axis[0].Y = -far }, api.OK},
		{func(c *api.Channel) { c.Axis[0].Y = -far - 1 }, api.ErrRange},
		{func(c *api.Channel) { c.Axis[1].Y = far }, api.OK},
		{func(c *api.Channel) { c.Axis[1].Y = far + 1 }, api.ErrRange},
		{func(c *api.Channel) { c.Axis[0].Half = 1 }, api.OK},
		{func(c *api.Channel) { c.Axis[0].Half = 0 }, api.ErrRange},
		{func(c *api.Channel) { c.Axis[1].Half = 100000 }, api.OK},
		{func(c *api.Channel) { c.Axis[1].Half = 100001 }, api.ErrRange},
		{func(c *api.Channel) { c.Axis[1].Half = -5 }, api.ErrRange},
		{func(c *api.Channel) { c.Axis[0].Level = highest }, api.OK},
		{func(c *api.Channel) { c.Axis[0].Level = highest + 1 }, api.ErrRange},
		{func(c *api.Channel) { c.Axis[0].Level = u }, api.ErrRange},
		{func(c *api.Channel) { c.Axis[1].Level = -highest + 30 }, api.OK}, // the allowance is left
		{func(c *api.Channel) { c.Axis[1].Level = -highest + 29 }, api.ErrRange},
		{func(c *api.Channel) { c.Over, c.Axis[0].Level = 0, -highest }, api.OK},
		{func(c *api.Channel) { c.Over, c.Axis[0].Level = 0, -highest-1 }, api.ErrRange},
		{func(c *api.Channel) { c.Over, c.Axis[0].Level = 1000, -highest+1000 }, api.OK},
		{func(c *api.Channel) { c.Over, c.Axis[0].Level = 1000, -highest+999 }, api.ErrRange},
		{func(c *api.Channel) { c.Axis[0].Run = 0 }, api.OK},
		{func(c *api.Channel) { c.Axis[0].Run = -1 }, api.ErrRange},
		{func(c *api.Channel) { c.Axis[1].Run = 1000 }, api.OK},
		{func(c *api.Channel) { c.Axis[1].Run = 1001 }, api.ErrRange},
		{func(c *api.Channel) { c.Axis[1].X = 0 }, api.ErrExists},
		{func(c *api.Channel) { c.Axis[1] = axis(0, 0, 5, -5, 5) }, api.ErrExists}, // the place alone counts
		{func(c *api.Channel) { c.Axis[1] = axis(0, 1, 1000, -1000, 4) }, api.OK},
		{func(c *api.Channel) { c.Axis = append(c.Axis, c.Axis[1]) }, api.ErrExists},
		{func(c *api.Channel) { c.Axis = append(c.Axis, c.Axis[0]) }, api.OK}, // not that of the one before
		{func(c *api.Channel) { c.Regions = blocks(20) }, api.OK},
		{func(c *api.Channel) { c.Regions = blocks(21) }, api.ErrLarge},
		{func(c *api.Channel) { c.Regions = []api.Region{{}} }, api.ErrName},
		{func(c *api.Channel) { c.Regions = []api.Region{block("A", -1, 0, 0, 5, 5)} }, api.ErrRange},
		{func(c *api.Channel) { c.Regions = []api.Region{block("A", 4, 0, 0, 5, 5)} }, api.ErrRange},
		{func(c *api.Channel) { c.Regions = []api.Region{block("A", 3, 0, 0, 5, 5)} }, api.OK},
		{func(c *api.Channel) { c.Regions = []api.Region{region("A", 0)} }, api.ErrShape},
		{func(c *api.Channel) { c.Regions = []api.Region{region("A", 0, 0, 0, 5, 5)} }, api.ErrShape},
		{func(c *api.Channel) { c.Regions = []api.Region{region("A", 0, 0, 0, 5, 5, far+1, 0)} }, api.ErrRange},
		{func(c *api.Channel) { c.Regions = []api.Region{region("A", 0, 0, 0, 5, 5, 5, 0, 0, 5)} }, api.ErrForm},
		{func(c *api.Channel) { c.Regions = []api.Region{region("A", 0, make([]int, 82)...)} }, api.ErrLarge},
		{func(c *api.Channel) {
			c.Regions = []api.Region{block("A", 0, 0, 0, 5, 5), block("B", 0, 0, 0, 5, 5), block("A", 0, 0, 0, 5, 5)}
		}, api.ErrExists},
		{func(c *api.Channel) {
			c.Regions = []api.Region{block("A", 0, 0, 0, 5, 5), block("a", 0, 0, 0, 5, 5), block("Main", 0, 0, 0, 5, 5)}
		}, api.OK},
	} {
		c := example()
		x.change(&c)
		same(t, channel.Check(c), x.want, "Check", c)
	}
}

// Of several errors the one that is listed first, and of lists that of the first element with one.
func TestP51FirstError(t *testing.T) {
	for _, x := range []struct {
		c    api.Channel
		want api.Errno
	}{
		{api.Channel{Over: -1, Axis: chain(1)}, api.ErrName},
		{api.Channel{Name: "A", Over: -1}, api.ErrRange},
		{api.Channel{Name: "A", Buffer: -1, Axis: chain(21)}, api.ErrRange},
		{api.Channel{Name: "A", Axis: make([]api.AxisPoint, 1)}, api.ErrShape},
		{api.Channel{Name: "A", Axis: make([]api.AxisPoint, 21), Regions: blocks(21)}, api.ErrLarge},
		{straight(axis(0, 0, 1, 0, 0), axis(0, 0, 0, 0, 0)), api.ErrRange}, // before ErrExists
		{straight(axis(0, 0, 1, 0, 0), axis(0, 0, 1, 0, 0), axis(5, 0, 0, 0, 0)), api.ErrExists},
		{straight(axis(0, 0, 0, 0, 0), axis(5, 0, 1, 0, 0), axis(5, 0, 1, 0, 0)), api.ErrRange},
		{having(straight(axis(0, 0, 1, 0, 0), axis(0, 0, 1, 0, 0)), blocks(21)...), api.ErrExists},
		{having(example(), make([]api.Region, 21)...), api.ErrLarge},
		{having(example(), block("A", 0, 0, 0, 5, 5), region("A", 4)), api.ErrExists}, // behind ErrName, before ErrRange
		{having(example(), block("", 0, 0, 0, 5, 5), region("", 4)), api.ErrName},
		{having(example(), region("A", 4)), api.ErrRange},
		{having(example(), region("A", 3), region("A", 4)), api.ErrShape},
		{having(example(), block("A", 0, 0, 0, 5, 5), region("B", 4), region("A", 0)), api.ErrRange},
		{having(example(), block("A", 0, 0, 0, 5, 5), block("A", 0, 0, 0, 5, 5), region("", 0)), api.ErrExists},
	} {
		same(t, channel.Check(x.c), x.want, "Check", x.c)
	}
}

// faulty is a channel with each of the errors.
func faulty() map[api.Errno]api.Channel {
	return map[api.Errno]api.Channel{
		api.ErrName:   {},
		api.ErrRange:  {Name: "A", Over: -1},
		api.ErrShape:  straight(chain(1)...),
		api.ErrLarge:  straight(chain(21)...),
		api.ErrExists: straight(axis(0, 0, 1, 0, 0), axis(0, 0, 1, 0, 0)),
		api.ErrForm:   having(example(), region("A", 0, 0, 0, 5, 5, 5, 0, 0, 5)),
	}
}

// Whatever else is wrong, the error of the channel comes first, then that of the grids in their order, then that of their cells.
func TestP51AllFunctions(t *testing.T) {
	for want, c := range faulty() {
		allRefused(t, channelCalls(c), want, c)
	}
	grids := map[api.Errno]api.Grid{
		api.ErrRange: flat(frame(0, 0, 99, 1, 1), 0),
		api.ErrLarge: frame(0, 0, 100, 33, 32),
		api.ErrShape: frame(0, 0, 100, 1, 1),
	}
	for want, g := range grids {
		allRefused(t, gridCalls(example(), g), want, g)
		for _, other := range grids {
			allRefused(t, twoCalls(example(), g, other), want, g, other)
		}
	}
	for _, other := range []api.Grid{
		flat(frame(1, -250, 500, 20, 1), 5), flat(frame(0, -251, 500, 20, 1), 5), flat(frame(0, -250, 501, 20, 1), 5),
		flat(frame(0, -250, 500, 19, 1), 5), flat(frame(0, -250, 500, 10, 2), 5), flat(frame(0, -250, 500, 20, 2), 5),
	} {
		allRefused(t, twoCalls(example(), strip(5), other), api.ErrShape, other)
		allRefused(t, twoCalls(example(), other, strip(5)), api.ErrShape, other)
	}
}

func TestP51Length(t *testing.T) {
	const far = farthest
	for _, x := range []struct {
		c    api.Channel
		want int
	}{
		{example(), 10000},
		{bent(), 7000},
		{straight(axis(0, 0, 1, 0, 0), axis(1, 1, 1, 0, 0)), 2},                          // each span is rounded up
		{straight(axis(0, 0, 1, 0, 0), axis(1, 1, 1, 0, 0), axis(101, 1, 1, 0, 0)), 102}, // not their sum
		{straight(axis(0, 0, 1, 0, 0), axis(1, 1, 1, 0, 0), axis(2, 2, 1, 0, 0)), 4},
		{straight(axis(0, 0, 1, 0, 0), axis(3, 4, 1, 0, 0), axis(0, 0, 1, 0, 0)), 10},
		{straight(axis(-far, -far, 1, 0, 0), axis(far, far, 1, 0, 0)), 2828428},
		{straight(chain(20)...), 1900},
	} {
		got, e := channel.Length(x.c)
		same(t, e, api.OK, "Length", x.c)
		same(t, got, x.want, "Length", x.c)
	}
	c := straight(slices.Repeat([]api.AxisPoint{axis(-far, -far, 1, 0, 0), axis(far, far, 1, 0, 0)}, 10)...)
	got, e := channel.Length(c)
	same(t, e, api.OK, "Length of the longest")
	same(t, got, 19*2828428, "Length of the longest")
}
