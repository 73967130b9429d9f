package channel_test

import (
	"math"
	"slices"
	"testing"

	"draghead/api"
	"draghead/channel"
	"draghead/geometry"
)

func quantity(name string, cells, design, tolerance, unknown int) api.Quantity {
	return api.Quantity{Region: name, Cells: cells, Design: design, Tolerance: tolerance, Unknown: unknown}
}

func TestP56Quantities(t *testing.T) {
	// Centres at (50, 0), (150, 0), (250, 0), (350, 0) and (450, 0); there is a design up to x = 400.
	c := straight(axis(0, 0, 60, -1000, 0), axis(400, 0, 60, -1000, 0))
	g := with(frame(0, -50, 100, 5, 1), -900, -1010, u, -1100, -900)
	for _, x := range []struct {
		regions []api.Region
		want    []api.Quantity
	}{
		{nil, nil},
		{[]api.Region{block("Q", 1, 0, -50, 500, 50), block("C", 2, 0, -50, 500, 50), block("R", 3, 0, -50, 500, 50)}, nil},
		{[]api.Region{block("All", 0, 0, -50, 500, 50)}, []api.Quantity{quantity("All", 3, 1000000, 1500000, 1)}},
		{[]api.Region{block("Left", 0, 0, -50, 149, 50)}, []api.Quantity{quantity("Left", 1, 1000000, 1300000, 0)}},
		{[]api.Region{block("Border", 0, 0, -50, 150, 0)}, []api.Quantity{quantity("Border", 2, 1000000, 1500000, 0)}}, // centres on the border
		{[]api.Region{block("Between", 0, 150, 0, 350, 50)}, []api.Quantity{quantity("Between", 2, 0, 200000, 1)}},
		{[]api.Region{block("Away", 0, 0, 1, 500, 50)}, []api.Quantity{quantity("Away", 0, 0, 0, 0)}},
		{[]api.Region{block("Outside", 0, 401, -50, 500, 50)}, []api.Quantity{quantity("Outside", 0, 0, 0, 0)}},
		{[]api.Region{block("Unknown", 0, 200, -50, 300, 50)}, []api.Quantity{quantity("Unknown", 0, 0, 0, 1)}},
		{ // in their order, although they overlap
			[]api.Region{block("Z", 0, 0, -50, 60, 50), block("Q", 1, 0, 0, 5, 5), block("A", 0, 0, -50, 160, 50), block("z", 0, 500, 500, 600, 600)},
			[]api.Quantity{quantity("Z", 1, 1000000, 1300000, 0), quantity("A", 2, 1000000, 1500000, 0), quantity("z", 0, 0, 0, 0)},
		},
	} {
		got, e := channel.Quantities(having(c, x.regions...), g)
		same(t, e, api.OK, "Quantities", x)
		sameList(t, got, x.want, "Quantities", x)
	}
	east := having(example(), block("East", 0, 0, -300, 750, 300))
	got, e := channel.Quantities(east, strip(-900))
	same(t, e, api.OK, "Quantities")
	sameList(t, got, []api.Quantity{quantity("East", 2, 50000000, 65000000, 0)}, "Quantities")
}

func TestP56QuantitiesComputed(t *testing.T) {
	s := &numbers{57}
	found := 0
	for range 2000 {
		c, g := s.regions(s.channel(3000), 3000), s.grid(3000)
		var want []api.Quantity
		for _, r := range c.Regions {
			if r.Kind != api.RegionSection {
				continue
			}
			q := api.Quantity{Region: r.Name}
			for i, level := range g.Levels {
				p := centreOf(g, i)
				line, _ := design(c, p)
				if where, _ := geometry.Inside(r.Corners, p); where < 0 || line == u {
					continue
				}
				if level == u {
					q.Unknown++
					continue
				}
				q.Cells++
				q.Design += g.Side * g.Side * max(0, level-line)
				q.Tolerance += g.Side * g.Side * max(0, level-line+c.Over)
			}
			found += min(q.Design, 1)
			want = append(want, q)
		}
		got, e := channel.Quantities(c, g)
		same(t, e, api.OK, "Quantities", c, g)
		sameList(t, got, want, "Quantities", c, g)
	}
	same(t, found > 100, true, "many sections have something above the design", found)
}

func TestP56Buffer(t *testing.T) {
	wall := region("Wall", 1, 1600, 300, 2100, 300, 2100, 900)
	for _, x := range []struct {
		r        api.Region
		distance int
		p        api.Point
		want     bool
	}{
		{wall, 300, at(1750, 0), true},
		{wall, 299, at(1750, 0), false},
		{wall, 0, at(1750, 300), true}, // on the border
		{wall, 0, at(2000, 400), true}, // inside
		{wall, 0, at(1750, 299), false},
		{wall, 5, at(1597, 296), true}, // from a corner
		{wall, 4, at(1597, 296), false},
		{wall, 5, at(1596, 296), false},
		{wall, farthest, at(-farthest, -farthest), false},
		{wall, farthest, at(farthest, farthest), false},
		{wall, farthest, at(900000, 300), true},
		{region("Wall", 0, 1600, 300, 2100, 300, 2100, 900), 0, at(2000, 400), true}, // whatever its kind
		{region("Wall", 3, 1600, 300, 2100, 300, 2100, 900), 0, at(2000, 400), true},
	} {
		got, e := channel.Buffer(x.r, x.distance, x.p)
		same(t, e, api.OK, "Buffer", x)
		same(t, got, x.want, "Buffer", x)
	}
}

func TestP56BufferErrors(t *testing.T) {
	const far = farthest
	for _, x := range []struct {
		r        api.Region
		distance int
		p        api.Point
		want     api.Errno
	}{
		{api.Region{Kind: 4}, -1, at(far+1, 0), api.ErrName},
		{region("9", 0, 0, 0, 5, 5, 5, 0), 0, at(0, 0), api.ErrName},
		{region("A", 4), -1, at(0, 0), api.ErrRange}, // before ErrShape
		{region("A", -1, 0, 0, 5, 5, 5, 0), 0, at(0, 0), api.ErrRange},
		{region("A", math.MaxInt, 0, 0, 5, 5, 5, 0), 0, at(0, 0), api.ErrRange},
		{region("A", 0), -1, at(far+1, 0), api.ErrShape},
		{region("A", 0, make([]int, 82)...), -1, at(far+1, 0), api.ErrLarge},
		{region("A", 0, 0, 0, 0, 0, 5, 0), -1, at(far+1, 0), api.ErrForm},
		{region("A", 0, 0, 0, far+1, 0, 5, 5), 0, at(0, 0), api.ErrRange},
		{region("A", 0, 0, 0, 5, 0, 5, 5), -1, at(0, 0), api.ErrRange},
		{region("A", 0, 0, 0, 5, 0, 5, 5), far + 1, at(0, 0), api.ErrRange},
		{region("A", 0, 0, 0, 5, 0, 5, 5), math.MinInt, at(0, 0), api.ErrRange},
		{region("A", 0, 0, 0, 5, 0, 5, 5), 0, at(far+1, 0), api.ErrRange},
		{region("A", 0, 0, 0, 5, 0, 5, 5), 0, at(0, math.MinInt), api.ErrRange},
	} {
		same(t, of(channel.Buffer(x.r, x.distance, x.p)), refused(x.want), "Buffer", x)
	}
}

func TestP56Protected(t *testing.T) {
	g := flat(frame(0, 0, 500, 3, 2), u) // its levels do not count
	for _, x := range []struct {
		buffer  int
		regions []api.Region
		want    []int
	}{
		{0, nil, nil},
		{0, []api.Region{block("A", 0, 0, 0, 1500, 1000)}, nil}, // a section protects nothing
		{0, []api.Region{block("A", 1, 0, 0, 1500, 1000)}, []int{0, 1, 2, 3, 4, 5}},
		{0, []api.Region{block("A", 2, -500, -500, 2000, 2000)}, []int{0, 1, 2, 3, 4, 5}}, // the squares lie inside
		{0, []api.Region{block("A", 3, 10, 10, 20, 20)}, []int{0}},                        // inside of the square
		{0, []api.Region{block("A", 1, 1490, 990, 1500, 1000)}, []int{5}},
		{0, []api.Region{block("A", 1, 500, 10, 505, 20)}, []int{0, 1}}, // a side of the square belongs to it
		{0, []api.Region{block("A", 1, 501, 10, 505, 20)}, []int{1}},
		{0, []api.Region{block("A", 1, 500, 500, 505, 505)}, []int{0, 1, 3, 4}}, // and so do its corners
		{0, []api.Region{block("A", 1, 501, 501, 505, 505)}, []int{4}},
		{0, []api.Region{block("A", 1, 1500, 1000, 1600, 1100)}, []int{5}},
		{0, []api.Region{block("A", 1, 1501, 1001, 1600, 1100)}, nil},
		{0, []api.Region{block("A", 1, -100, -100, 0, 0)}, []int{0}},
		{0, []api.Region{block("A", 1, -100, -100, -1, -1)}, nil},
		{0, []api.Region{region("A", 1, 0, 499, 499, 0, 0, 0)}, []int{0}},
		{0, []api.Region{region("A", 1, 0, 999, 999, 0, 0, 0)}, []int{0, 1, 3}},
		{0, []api.Region{region("A", 1, 0, 1000, 1000, 0, 0, 0)}, []int{0, 1, 2, 3, 4}},
		// The distance is that of the centre.
		{249, []api.Region{block("A", 1, 1501, 0, 1600, 1000)}, nil},
		{250, []api.Region{block("A", 1, 1501, 0, 1600, 1000)}, nil},
		{251, []api.Region{block("A", 1, 1501, 0, 1600, 1000)}, []int{2, 5}},
		{750, []api.Region{block("A", 1, 1501, 0, 1600, 1000)}, []int{2, 5}},
		{751, []api.Region{block("A", 1, 1501, 0, 1600, 1000)}, []int{1, 2, 4, 5}},
		{354, []api.Region{block("A", 1, 1501, 1001, 1600, 1100)}, nil}, // its corner is 354.97 from the centre
		{355, []api.Region{block("A", 1, 1501, 1001, 1600, 1100)}, []int{5}},
		{100000, []api.Region{block("A", 2, 50000, 50000, 50100, 50100)}, []int{0, 1, 2, 3, 4, 5}},
		{251, []api.Region{block("A", 0, 1501, 0, 1600, 1000)}, nil},
		// Several regions together.
		{0, []api.Region{block("A", 1, 1490, 990, 1500, 1000), block("B", 0, 0, 0, 1500, 1000), block("C", 3, 10, 10, 20, 20)}, []int{0, 5}},
	} {
		c := having(example(), x.regions...)
		c.Buffer = x.buffer
		got, e := channel.Protected(c, g)
		same(t, e, api.OK, "Protected", x)
		sameList(t, got, x.want, "Protected", x)
	}
}

// The quay of the stage's tests: the strip lies 50 below it, and one centre is within 300.
func TestP56ProtectedStrip(t *testing.T) {
	c := having(example(), region("Wall", 1, 1600, 300, 2100, 300, 2100, 900))
	for buffer, want := range map[int][]int{0: nil, 299: nil, 300: {3}, 335: {3}, 336: {3, 4}, 350: {3, 4}, 460: {3, 4}, 461: {2, 3, 4}, 715: {2, 3, 4}, 716: {2, 3, 4, 5}, 901: {2, 3, 4, 5}, 902: {1, 2, 3, 4, 5}} {
		c.Buffer = buffer
		got, e := channel.Protected(c, strip(-900))
		same(t, e, api.OK, "Protected", buffer)
		sameList(t, got, want, "Protected", buffer)
	}
	// Also where there is no channel, and at the ends of all places.
	const far = farthest
	c = having(example(), block("A", 1, far-5, far-5, far, far), block("B", 1, -far, -far, 5-far, 5-far))
	got, e := channel.Protected(c, flat(frame(far-200, far-200, 100, 2, 2), 0))
	same(t, e, api.OK, "Protected")
	sameList(t, got, []int{3}, "Protected")
	got, e = channel.Protected(c, flat(frame(-far, -far, 100, 2, 2), 0))
	same(t, e, api.OK, "Protected")
	sameList(t, got, []int{0}, "Protected")
}

func TestP56ProtectedComputed(t *testing.T) {
	s := &numbers{58}
	near, touched := 0, 0
	for range 600 {
		most := []int{300, 3000, farthest}[s.next(3)]
		c, g := s.regions(s.channel(most), most), s.grid(most)
		c.Buffer = s.next(2) * c.Buffer
		var want []int
		for i := range g.Levels {
			low := at(g.X+i%g.Cols*g.Side, g.Y+i/g.Cols*g.Side)
			if slices.ContainsFunc(c.Regions, func(r api.Region) bool {
				isNear, _ := geometry.Near(r.Corners, centreOf(g, i), c.Buffer)
				touches, _ := geometry.Touches(r.Corners, low, at(low.X+g.Side, low.Y+g.Side))
				if r.Kind > 0 && isNear && !touches {
					near++
				}
				if r.Kind > 0 && touches && !isNear {
					touched++
				}
				return r.Kind > 0 && (isNear || touches)
			}) {
				want = append(want, i)
			}
		}
		got, e := channel.Protected(c, g)
		same(t, e, api.OK, "Protected", c, g)
		sameList(t, got, want, "Protected", c, g)
	}
	same(t, near > 100 && touched > 100, true, "all kinds of cells are looked at", near, touched)
}

// The most regions with the most corners, and the most cells: it takes a moment, not more.
func TestP56Largest(t *testing.T) {
	c := example()
	for k := range 20 {
		r := api.Region{Name: "R" + string(rune('a'+k)), Kind: k % 4}
		for i := range 20 {
			r.Corners = append(r.Corners, at(500000+100*i, 100*(i%2)))
		}
		for i := range 20 {
			r.Corners = append(r.Corners, at(500000+100*(19-i), 1000+100*(i%2)))
		}
		c.Regions = append(c.Regions, r)
	}
	same(t, channel.Check(c), api.OK, "Check")
	g := flat(frame(0, -1600, 100, 32, 32), -900)
	l, e := channel.Protected(c, g)
	same(t, of(l, e), refused(api.OK), "Protected")
	q, e := channel.Quantities(c, g)
	same(t, e, api.OK, "Quantities")
	same(t, len(q), 5, "Quantities")
}
