package channel_test

import (
	"math"
	"slices"
	"testing"

	"draghead/api"
	"draghead/bed"
	"draghead/channel"
)

func TestP59DesignWithinTolerance(t *testing.T) {
	s := &numbers{61}
	for range 600 {
		c, g := s.regions(s.channel(3000), 3000), s.grid(3000)
		l, e := channel.Quantities(c, g)
		same(t, e, api.OK, "Quantities", c, g)
		for _, q := range l {
			same(t, 0 <= q.Design && q.Design <= q.Tolerance, true, "what lies above the design", c, g, q)
		}
		// All of it is taken away.
		needed, _ := channel.Needed(c, g)
		all, _ := channel.Paid(c, g, flatWhereKnown(g, -highest))
		same(t, needed <= all, true, "Needed is not more than what lies above the tolerance", c, g)
	}
}

// flatWhereKnown is a grid with one level in all cells that are known in another one.
func flatWhereKnown(g api.Grid, level int) api.Grid {
	out := with(g, slices.Clone(g.Levels)...)
	for i := range out.Levels {
		if out.Levels[i] != u {
			out.Levels[i] = level
		}
	}
	return out
}

func TestP59PaidAndOvercutAreTheCut(t *testing.T) {
	s := &numbers{62}
	for range 600 {
		c, before := s.channel(3000), s.grid(3000)
		after := s.again(before)
		lines, _ := channel.DesignGrid(c, before)
		for i, level := range before.Levels {
			after.Levels[i] = min(after.Levels[i], level) // only lowered
		}
		inside, insideAfter := with(before, slices.Clone(before.Levels)...), with(after, slices.Clone(after.Levels)...)
		for i, line := range lines.Levels {
			if line == u {
				inside.Levels[i], insideAfter.Levels[i] = u, u
			}
		}
		all, _ := bed.Compare(inside, insideAfter)
		paid, e := channel.Paid(c, before, after)
		same(t, e, api.OK, "Paid", c, before, after)
		over, e := channel.Overcut(c, before, after)
		same(t, e, api.OK, "Overcut", c, before, after)
		same(t, paid+over, all.Cut, "paid volume and overcut", c, before, after)
		same(t, all.Fill, 0, "nothing became higher", c, before, after)
	}
}

func TestP59DeeperNeedsMore(t *testing.T) {
	s := &numbers{63}
	for range 600 {
		c, g := s.channel(3000), s.grid(3000)
		deeper, e := channel.Deepen(c, s.next(500))
		same(t, e, api.OK, "Deepen", c)
		one, _ := channel.Needed(c, g)
		more, e := channel.Needed(deeper, g)
		same(t, e, api.OK, "Needed", deeper, g)
		same(t, one <= more, true, "a deeper channel needs at least as much", c, deeper, g)
		lines, _ := channel.DesignGrid(c, g)
		below, _ := channel.DesignGrid(deeper, g)
		for i := range lines.Levels {
			same(t, below.Levels[i] <= lines.Levels[i], true, "it is nowhere higher", c, deeper, g, i)
		}
	}
}

func TestP59BoxIsWithin(t *testing.T) {
	s := &numbers{64}
	for range 600 {
		c, g := s.channel(3000), s.grid(3000)
		box, e := channel.Box(c, 0)
		same(t, e, api.OK, "Box", c)
		boxed, _ := channel.DesignGrid(box, g)
		lines, _ := channel.DesignGrid(c, g)
		for i := range lines.Levels {
			same(t, boxed.Levels[i] == u || lines.Levels[i] <= boxed.Levels[i], true, "a cell of the box", c, g, i)
		}
		sameList(t, bottom(box, g), bottom(c, g), "the bottom", c, g)
	}
}

func TestP59PassageIsNotHigher(t *testing.T) {
	s := &numbers{65}
	seen := 0
	for range 600 {
		c, g := s.short()
		for i, level := range g.Levels {
			g.Levels[i] = min(level, -300) // all are known
		}
		r, e := channel.Draught(c, g)
		if e != api.OK {
			continue
		}
		seen++
		top, e := channel.Controlling(c, g)
		same(t, e, api.OK, "Controlling", c, g)
		same(t, r.Level <= g.Levels[top], true, "the highest cell of the passage", c, g)
	}
	same(t, seen > 100, true, "many passages are looked at", seen)
}

func TestP59ReadBack(t *testing.T) {
	s := &numbers{66}
	for range 1000 {
		most := []int{12, 300, 3000, farthest}[s.next(4)]
		c := s.regions(s.channel(most), most)
		text, e := channel.Print(c)
		same(t, e, api.OK, "Print", c)
		got, n, e := channel.Parse(text)
		same(t, e, api.OK, "Parse", text)
		same(t, n, 0, "Parse", text)
		sameChannel(t, got, c, "Parse", text)
	}
}

// wipe overwrites a list as far as its memory goes.
func wipe[T any](l []T) { clear(l[:cap(l)]) }

func wipeList[T any](l []T, _ api.Errno) { wipe(l) }

func wipeGrid(g api.Grid, _ api.Errno) { wipe(g.Levels) }

func wipeChannel(c api.Channel, _ api.Errno) {
	for _, r := range c.Regions {
		wipe(r.Corners)
	}
	wipe(c.Axis)
	wipe(c.Regions)
}

// roomy is a list with other elements behind its end.
func roomy[T any](l []T, behind T) []T {
	out := append(slices.Clone(l), behind, behind)
	return out[:len(l)]
}

// R3: results are overwritten here, and the arguments are what they were before.
func TestP59Memory(t *testing.T) {
	c := having(example(), block("A", 0, 0, -300, 3000, 300), block("B", 1, 1600, 300, 2100, 900))
	c.Axis = roomy(c.Axis, axis(7, 7, 7, 7, 7))
	corners := c.Regions[1].Corners
	c.Regions[1].Corners = roomy(corners, at(7, 7))
	c.Regions = roomy(c.Regions, block("Z", 0, 7, 7, 8, 8))
	c.Buffer = 400
	before, after := strip(-900), strip(-1050)
	before.Levels, after.Levels = roomy(before.Levels, 77), roomy(after.Levels, 78)
	for range 2 { // what an earlier call gave back has no part in a later one
		wipeGrid(channel.DesignGrid(c, before))
		wipeGrid(channel.ToleranceGrid(c, before))
		wipeList(channel.Section(c, api.Station{Chainage: 5, Step: 5, Count: 5}))
		wipeChannel(channel.Box(c, 0))
		wipeChannel(channel.Deepen(c, 0))
		wipeList(channel.Open(c, before))
		wipeList(channel.Quantities(c, before))
		wipeList(channel.Protected(c, before))
		channel.Needed(c, before)
		channel.Paid(c, before, after)
		channel.Overcut(c, before, after)
		channel.Controlling(c, before)
		channel.Buffer(c.Regions[1], 5, at(0, 0))
		r, e := channel.Draught(c, before)
		same(t, e, api.OK, "Draught")
		wipe(r.Path)
		same(t, len(r.Barrier) > 0 && r.Barrier[len(r.Barrier)-1] > 0, true, "path and barrier share nothing")
		wipe(r.Barrier)
		text, _ := channel.Print(c)
		read, _, e := channel.Parse(text)
		wipeChannel(read, e)
	}
	sameList(t, c.Axis[:4], append(example().Axis, axis(7, 7, 7, 7, 7), axis(7, 7, 7, 7, 7)), "the axis")
	sameList(t, c.Regions[1].Corners[:6], append(slices.Clone(corners), at(7, 7), at(7, 7)), "the corners")
	sameList(t, c.Regions[0].Corners, points(0, -300, 3000, -300, 3000, 300, 0, 300), "the corners of the other region")
	same(t, c.Regions[:4][3].Name+c.Regions[:4][2].Name+c.Regions[1].Name+c.Regions[0].Name, "ZZBA", "the regions")
	sameList(t, before.Levels[:22], append(strip(-900).Levels, 77, 77), "the levels before")
	sameList(t, after.Levels[:22], append(strip(-1050).Levels, 78, 78), "the levels after")
}

// R5: a nil list and an empty one.
func TestP59Empty(t *testing.T) {
	for _, pair := range [][2]map[string]answer{
		{channelCalls(straight()), channelCalls(straight([]api.AxisPoint{}...))},
		{channelCalls(having(example())), channelCalls(having(example(), []api.Region{}...))},
		{channelCalls(having(example(), region("A", 0))), channelCalls(having(example(), api.Region{Name: "A", Corners: []api.Point{}}))},
		{gridCalls(example(), frame(0, 0, 100, 1, 1)), gridCalls(example(), with(frame(0, 0, 100, 1, 1), []int{}...))},
		{gridCalls(having(example()), strip(5)), gridCalls(having(example(), []api.Region{}...), strip(5))},
		{{"Buffer": of(channel.Buffer(region("A", 0), 0, at(0, 0)))}, {"Buffer": of(channel.Buffer(api.Region{Name: "A", Corners: []api.Point{}}, 0, at(0, 0)))}},
	} {
		for name, got := range pair[0] {
			same(t, got, pair[1][name], name)
		}
	}
}

// R2 and R4: the ends of the range of int everywhere, and results that are the same again.
func TestP59AnyArguments(t *testing.T) {
	ends := []int{math.MinInt, math.MinInt + 1, -1, 0, 1, 100, math.MaxInt - 1, math.MaxInt}
	c, g := having(example(), block("A", 0, 0, 0, 500, 500), block("B", 1, 0, 0, 500, 500)), strip(-900)
	for _, a := range ends {
		channel.Box(c, a)
		channel.Deepen(c, a)
		for _, b := range ends {
			channel.Along(c, at(a, b))
			channel.Design(c, at(a, b))
			channel.Section(c, api.Station{Chainage: a, Step: b, Count: 3})
			channel.Section(c, api.Station{Chainage: 5, Step: a, Count: b})
			channel.Buffer(c.Regions[0], a, at(b, a))
			channelCalls(api.Channel{Name: "A", Over: a, Buffer: b, Axis: c.Axis})
			channelCalls(having(example(), region("A", a, b, a, 0, 0, 5, 5)))
			gridCalls(c, frame(a, b, a, 1, 1))
			for _, d := range ends {
				channelCalls(straight(axis(a, b, d, a, b), axis(0, 0, 1, 1, 1)))
				channelCalls(straight(axis(0, 0, 1, 1, 1), axis(5, 0, a, b, d)))
				gridCalls(c, with(frame(a, b, d, 1, 1), 0))
				gridCalls(c, with(frame(0, 0, a, b, d), 0))
			}
		}
	}
	first, _ := channel.Draught(c, g)
	for range 20 {
		again, _ := channel.Draught(c, g)
		sameList(t, again.Path, first.Path, "Draught again")
		sameList(t, again.Barrier, first.Barrier, "Draught again")
	}
}
