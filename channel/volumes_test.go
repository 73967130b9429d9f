package channel_test

import (
	"testing"

	"draghead/api"
	"draghead/bed"
	"draghead/channel"
)

func TestP55Example(t *testing.T) {
	c, before, after := example(), strip(-900), strip(-1050)
	n, e := channel.Needed(c, before)
	same(t, e, api.OK, "Needed")
	same(t, n, 500000000, "Needed")
	l, e := channel.Open(c, before)
	same(t, e, api.OK, "Open")
	sameList(t, l, []int{0, 1, 2, 3, 4, 5, 6, 7, 8, 9, 10, 11, 12, 13, 14, 15, 16, 17, 18, 19}, "Open")
	n, e = channel.Paid(c, before, after)
	same(t, e, api.OK, "Paid")
	same(t, n, 650000000, "Paid")
	n, e = channel.Overcut(c, before, after)
	same(t, e, api.OK, "Overcut")
	same(t, n, 100000000, "Overcut")
}

// single is a cell of the side 100 under the design -1000 with the tolerance -1030, beside another cell without a design level.
func single(level int) api.Grid { return with(frame(9900, -50, 100, 2, 1), level, -5) }

func TestP55Needed(t *testing.T) {
	for _, x := range []struct {
		level, needed int
		isOpen        bool
	}{
		{-900, 1000000, true}, {-999, 10000, true}, {-1000, 0, false}, {-1001, 0, false}, {-1030, 0, false}, {-2000, 0, false},
		{0, 10000000, true}, {highest, 10000 * 21000, true}, {-highest, 0, false}, {u, 0, false},
	} {
		n, e := channel.Needed(example(), single(x.level))
		same(t, e, api.OK, "Needed", x)
		same(t, n, x.needed, "Needed", x)
		l, e := channel.Open(example(), single(x.level))
		same(t, e, api.OK, "Open", x)
		var want []int
		if x.isOpen {
			want = []int{0}
		}
		sameList(t, l, want, "Open", x)
	}
	// No cell has a design level.
	away := flat(frame(20000, 0, 100, 3, 3), 500)
	n, e := channel.Needed(example(), away)
	same(t, of(n, e), refused(api.OK), "Needed", away)
	l, e := channel.Open(example(), away)
	same(t, of(l, e), refused(api.OK), "Open", away)
	// The most.
	deep := straight(axis(0, 0, 100000, -highest, 0), axis(farthest, 0, 100000, -highest, 0))
	deep.Over = 0
	most := flat(frame(0, -90000, 10000, 64, 16), highest)
	n, e = channel.Needed(deep, most)
	same(t, e, api.OK, "Needed")
	same(t, n, 1024*100000000*40000, "Needed")
	n, e = channel.Paid(deep, most, flat(most, -highest))
	same(t, e, api.OK, "Paid")
	same(t, n, 1024*100000000*40000, "Paid")
}

func TestP55PaidAndOvercut(t *testing.T) {
	for _, x := range []struct{ before, after, paid, overcut int }{
		{-900, -1050, 130, 20},
		{-900, -1030, 130, 0},
		{-900, -1031, 130, 1},
		{-900, -1029, 129, 0},
		{-900, -950, 50, 0}, // above the design
		{-1000, -1020, 20, 0},
		{-1029, -1031, 1, 1},
		{-1030, -1040, 0, 10},
		{-1050, -1060, 0, 10},
		{-900, -900, 0, 0},
		{-950, -900, 0, 0}, // higher than before
		{-1050, -900, 0, 0},
		{-1060, -1050, 0, 0},
		{highest, -highest, 21030, 18970},
		{-highest, highest, 0, 0},
		{u, -1050, 0, 0},
		{-900, u, 0, 0},
		{u, u, 0, 0},
	} {
		n, e := channel.Paid(example(), single(x.before), single(x.after))
		same(t, e, api.OK, "Paid", x)
		same(t, n, 10000*x.paid, "Paid", x)
		n, e = channel.Overcut(example(), single(x.before), single(x.after))
		same(t, e, api.OK, "Overcut", x)
		same(t, n, 10000*x.overcut, "Overcut", x)
	}
	// What is lost outside of the channel counts nowhere.
	before, after := with(single(-900), -900, 500), with(single(-900), -900, -5000)
	n, e := channel.Paid(example(), before, after)
	same(t, of(n, e), refused(api.OK), "Paid")
	n, e = channel.Overcut(example(), before, after)
	same(t, of(n, e), refused(api.OK), "Overcut")
}

// Centimetre by centimetre of each cell.
func TestP55Computed(t *testing.T) {
	s := &numbers{55}
	opened, paidFor, overcut := 0, 0, 0
	for range 1200 {
		most := []int{300, 3000, 3000, farthest}[s.next(4)]
		c, before := s.channel(most), s.grid(most)
		after := s.again(before)
		var needed, paid, over int
		var open []int
		for i, level := range before.Levels {
			line, _ := design(c, centreOf(before, i))
			if line == u || level == u {
				continue
			}
			needed += max(0, level-line)
			if level > line {
				open = append(open, i)
			}
			if after.Levels[i] == u {
				continue
			}
			for at := after.Levels[i]; at < level; at++ {
				if at >= line-c.Over {
					paid++
				} else {
					over++
				}
			}
		}
		n, e := channel.Needed(c, before)
		same(t, e, api.OK, "Needed", c, before)
		same(t, n, needed*before.Side*before.Side, "Needed", c, before)
		l, e := channel.Open(c, before)
		same(t, e, api.OK, "Open", c, before)
		sameList(t, l, open, "Open", c, before)
		n, e = channel.Paid(c, before, after)
		same(t, e, api.OK, "Paid", c, before, after)
		same(t, n, paid*before.Side*before.Side, "Paid", c, before, after)
		n, e = channel.Overcut(c, before, after)
		same(t, e, api.OK, "Overcut", c, before, after)
		same(t, n, over*before.Side*before.Side, "Overcut", c, before, after)
		opened, paidFor, overcut = opened+min(needed, 1), paidFor+min(paid, 1), overcut+min(over, 1)
	}
	same(t, opened > 200 && paidFor > 200 && overcut > 200, true, "all kinds of volumes are looked at", opened, paidFor, overcut)
}

// Paid is Needed, if all is taken away down to the design and nothing more.
func TestP55PaidOfNeeded(t *testing.T) {
	s := &numbers{56}
	for range 300 {
		c, before := s.channel(3000), s.grid(3000)
		level, _ := channel.DesignGrid(c, before)
		after := with(before)
		for i := range before.Levels {
			after.Levels = append(after.Levels, min(before.Levels[i], level.Levels[i]))
			if before.Levels[i] == u {
				after.Levels[i] = u
			}
		}
		needed, _ := channel.Needed(c, before)
		lost, _ := bed.Compare(before, after)
		same(t, needed, lost.Cut, "Needed", c, before)
		paid, _ := channel.Paid(c, before, after)
		same(t, paid, needed, "Paid", c, before)
		over, e := channel.Overcut(c, before, after)
		same(t, of(over, e), refused(api.OK), "Overcut", c, before)
	}
}
