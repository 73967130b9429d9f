package channel_test

import (
	"slices"
	"testing"

	"draghead/api"
	"draghead/bed"
	"draghead/channel"
	"draghead/geometry"
)

// narrow has centres of the side 100 on the bottom in the rows 1 to 3 of field.
func narrow() api.Channel {
	return straight(axis(0, 0, 100, -1000, 2), axis(1000, 0, 100, -1000, 2))
}

// field is a grid of ten columns and five rows; the axis of narrow goes through the middle of its row 2.
func field(level int) api.Grid { return flat(frame(0, -250, 100, 10, 5), level) }

// changed is a grid with other levels in some cells.
func changed(g api.Grid, level int, cells ...int) api.Grid {
	g.Levels = slices.Clone(g.Levels)
	for _, i := range cells {
		g.Levels[i] = level
	}
	return g
}

func TestP57Controlling(t *testing.T) {
	for _, x := range []struct {
		c    api.Channel
		g    api.Grid
		want int
	}{
		{example(), strip(-900), 0}, // of several ones that with the least index
		{example(), changed(strip(-900), -850, 7), 7},
		{example(), changed(strip(-900), -850, 7, 3), 3},
		{example(), changed(strip(-900), -950, 0), 1},
		{narrow(), field(-1100), 10},                      // lower than the design, too
		{narrow(), changed(field(-1100), 500, 9, 45), 10}, // not on the bottom
		{narrow(), changed(field(-1100), u, 0, 9, 40, 49), 10},
		{narrow(), changed(field(-1100), -1099, 9, 39, 45), 39},
		{narrow(), flat(frame(0, 0, 100, 1, 1), highest), 0},
		{narrow(), flat(frame(0, 0, 100, 1, 1), -highest), 0},
		{bent(), changed(flat(frame(4000, -600, 200, 3, 4), -900), -5, 0, 1), 3}, // the bend has a bottom, too
	} {
		got, e := channel.Controlling(x.c, x.g)
		same(t, e, api.OK, "Controlling", x)
		same(t, got, x.want, "Controlling", x)
	}
	for _, x := range []struct {
		g    api.Grid
		want api.Errno
	}{
		{flat(frame(0, 60, 100, 10, 3), -900), api.ErrNone}, // the centres are 110 from the axis
		{flat(frame(2000, 0, 100, 10, 3), u), api.ErrNone},
		{changed(field(-900), u, 25), api.ErrUnknown},
		{changed(field(-900), u, 10), api.ErrUnknown},
		{changed(field(-900), u, 39), api.ErrUnknown},
		{field(u), api.ErrUnknown},
	} {
		same(t, of(channel.Controlling(narrow(), x.g)), refused(x.want), "Controlling", x)
	}
	same(t, bottomIs(narrow(), field(0), 10, 39), true, "the bottom of narrow")
}

// bottomIs reports whether the cells on the bottom are those from one to another.
func bottomIs(c api.Channel, g api.Grid, from, to int) bool {
	l := bottom(c, g)
	return len(l) == to-from+1 && l[0] == from && l[len(l)-1] == to
}

// checkRoute fails the test unless a route over the bottom is right, with this level.
func checkRoute(t *testing.T, c api.Channel, g api.Grid, level int) {
	t.Helper()
	r, e := channel.Draught(c, g)
	same(t, e, api.OK, "Draught", c.Axis, g)
	same(t, r.Level, level, "Draught", c.Axis, g)
	masked, from, to := passage(c, g)
	same(t, bed.CheckClear(masked, api.Way{From: from, To: to, Route: r}), api.OK, "the route", c.Axis, g, r)
}

// passage is the grid in which only the cells on the bottom are known, and those of them near the ends.
func passage(c api.Channel, g api.Grid) (masked api.Grid, from, to []int) {
	masked, _ = bed.Blank(g)
	for _, i := range bottom(c, g) {
		masked.Levels[i] = g.Levels[i]
		if geometry.Span(placeOf(c.Axis[0]), centreOf(g, i)) <= 2*g.Side {
			from = append(from, i)
		}
		if geometry.Span(placeOf(c.Axis[len(c.Axis)-1]), centreOf(g, i)) <= 2*g.Side {
			to = append(to, i)
		}
	}
	return masked, from, to
}

func TestP57Draught(t *testing.T) {
	lane := field(-1100)
	for _, x := range []struct {
		c    api.Channel
		g    api.Grid
		want int
	}{
		{example(), strip(-900), -900},
		{example(), changed(strip(-900), -850, 7), -850},
		{example(), changed(strip(-900), -850, 0, 19), -900}, // it leads from cell 1 to cell 18
		{example(), changed(strip(-900), u, 0, 19), -900},
		{example(), changed(strip(-900), -850, 1), -850},
		{example(), changed(strip(-900), -850, 18), -850},
		{example(), changed(strip(-900), -850, 2), -850},
		{example(), flat(frame(750, -250, 500, 17, 1), -900), -900}, // the first centre is just near enough, and the last one
		{narrow(), lane, -1100},
		{narrow(), changed(lane, -500, 15, 25), -1100}, // past them
		{narrow(), changed(lane, u, 15, 25), -1100},
		{narrow(), changed(lane, -500, 15, 25, 35), -500},
		{narrow(), changed(changed(lane, -500, 15, 25), -700, 35), -700},
		{narrow(), changed(changed(lane, -500, 15, 25, 35), -2000, 5, 45), -500}, // not beside the bottom
		{narrow(), changed(changed(lane, u, 15, 25), 300, 0, 1, 2, 3, 4, 5, 49), -1100},
		{narrow(), changed(lane, -500, 10, 20, 30), -1100}, // it may begin in the next column
		{narrow(), changed(lane, -500, 11, 21, 31), -500},
		{narrow(), changed(lane, -500, 19, 29, 39), -1100},
		{narrow(), changed(lane, -500, 18, 28, 38), -500},
		{narrow(), flat(frame(250, -250, 500, 1, 1), -700), -700}, // one cell is both ends
		{narrow(), flat(frame(250, -250, 500, 1, 1), highest), highest},
		{bent(), flat(frame(0, -1000, 250, 20, 17), -900), -900},
	} {
		checkRoute(t, x.c, x.g, x.want)
	}
}

func TestP57DraughtErrors(t *testing.T) {
	for _, x := range []struct {
		c api.Channel
		g api.Grid
	}{
		{example(), flat(frame(751, -250, 500, 17, 1), -900)}, // no cell is near the first axis point
		{example(), flat(frame(749, -250, 500, 17, 1), -900)}, // nor here near the last one
		{example(), flat(frame(4000, -250, 500, 3, 1), -900)},
		{example(), flat(frame(20000, -250, 500, 3, 1), -900)},
		{narrow(), flat(frame(0, 60, 100, 10, 3), -900)}, // near it, and not on the bottom
		{example(), changed(strip(-900), u, 9)},
		{example(), changed(strip(-900), u, 0, 1)},
		{example(), changed(strip(-900), u, 18, 19)},
		{example(), strip(u)},
		{narrow(), changed(field(-1100), u, 15, 25, 35)},     // the cells beside the bottom do not count
		{narrow(), changed(field(-1100), u, 15, 26, 37, 16)}, // cells that touch at a corner are no neighbours
	} {
		same(t, of(channel.Draught(x.c, x.g)), refused(api.ErrNone), "Draught", x)
	}
}

// leads reports whether known cells lead from some cells to others.
func leads(g api.Grid, from, to []int) bool {
	seen := map[int]bool{}
	work := slices.Clone(from)
	for len(work) > 0 {
		i := work[0]
		work = work[1:]
		if seen[i] || g.Levels[i] == u {
			continue
		}
		seen[i] = true
		next, _ := bed.Near(g, i)
		work = append(work, next...)
	}
	return slices.ContainsFunc(to, func(i int) bool { return seen[i] })
}

// short is a channel that is not much longer than the cells of a grid are wide, with such a grid.
func (s *numbers) short() (api.Channel, api.Grid) {
	c := s.channel(1200)
	for i := range c.Axis {
		c.Axis[i].Half = 100 + s.next(500)
	}
	g := frame(-1300, -1300, 200+s.next(3)*50, 10, 10)
	g = s.again(g)
	for i := range g.Levels {
		if g.Levels[i] == u && s.next(3) > 0 {
			g.Levels[i] = -700
		}
	}
	return c, g
}

func TestP57Computed(t *testing.T) {
	s := &numbers{59}
	counts := map[api.Errno]int{}
	for range 600 {
		c, g := s.short()
		masked, from, to := passage(c, g)
		if len(from) == 0 || len(to) == 0 || !leads(masked, from, to) {
			same(t, of(channel.Draught(c, g)), refused(api.ErrNone), "Draught", c, g)
			counts[api.ErrNone]++
		} else {
			best, e := bed.Clear(masked, from, to)
			same(t, e, api.OK, "Clear", c, g)
			checkRoute(t, c, g, best.Level)
			counts[api.OK]++
		}
		cells := bottom(c, g)
		top, e := channel.Controlling(c, g)
		switch {
		case len(cells) == 0:
			same(t, of(top, e), refused(api.ErrNone), "Controlling", c, g)
		case slices.ContainsFunc(cells, func(i int) bool { return g.Levels[i] == u }):
			same(t, of(top, e), refused(api.ErrUnknown), "Controlling", c, g)
			counts[e]++
		default:
			same(t, e, api.OK, "Controlling", c, g)
			same(t, slices.Contains(cells, top), true, "Controlling is on the bottom", c, g)
			for _, i := range cells {
				same(t, g.Levels[i] < g.Levels[top] || g.Levels[i] == g.Levels[top] && i >= top, true, "Controlling is the highest", c, g, top, i)
			}
			counts[api.ErrState]++
		}
	}
	same(t, counts[api.OK] > 100 && counts[api.ErrNone] > 50 && counts[api.ErrUnknown] > 100 && counts[api.ErrState] > 20, true, "all kinds of channels are looked at", counts)
}
