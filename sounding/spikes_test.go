package sounding_test

import (
	"math"
	"testing"

	"draghead/api"
	"draghead/sounding"
)

func TestP33Spikes(t *testing.T) {
	l := example()
	mixed := []api.Sounding{l[3], l[1], l[2], l[0]}
	// The middles are 0, -1 (of -1 and 0), -4 (of -4 and -3).
	odd := []api.Sounding{at(1, 0, 0, 0, 0), at(2, 1, 0, -1, 0), at(3, 2, 0, -4, -3)}
	// 5 and 6 are as far from 9 as 2 and 3.
	cross := []api.Sounding{at(9, 0, 0, 0, 0), at(6, 5, 0, 100, 100), at(5, 0, -5, 100, 100), at(3, -5, 0, 0, 0), at(2, 3, 4, 0, 0)}
	stack := []api.Sounding{at(1, 0, 0, 10, 10), at(2, 0, 0, 20, 20), at(3, 0, 0, 40, 40)} // all at one place
	far := []api.Sounding{at(1, 0, 0, -highest, -highest), at(2, 9, 0, highest, highest)}
	for _, c := range []struct {
		l            []api.Sounding
		count, limit int
		want         []int
	}{
		{l, 2, 30, []int{3, 4}},
		{l, 2, 29, []int{1, 2, 3, 4}},
		{l, 2, 49, []int{3, 4}},
		{l, 2, 50, []int{4}}, // 3 differs by 50
		{l, 3, 50, []int{4}},
		{l, 4, 0, nil}, // there are only three others
		{l, 25, 0, nil},
		{mixed, 2, 30, []int{4, 3}},
		{mixed, 3, 50, []int{4}},
		{odd, 1, 0, []int{1, 2, 3}},
		{odd, 1, 1, []int{3}}, // 3 differs from 2 by 3
		{odd, 1, 3, nil},
		{odd, 2, 2, []int{1, 2, 3}},
		{odd, 2, 3, []int{1}}, // 1 differs from -4 by 4, 2 from -4 by 3, 3 from -1 by 3
		{odd, 2, 4, nil},
		{cross, 1, 99, []int{6, 5, 2}}, // the nearest one to 2 is 6
		{cross, 2, 0, []int{6, 5}},
		{cross, 3, 0, []int{6, 5}},
		{cross, 4, 0, []int{6, 5}},
		{stack, 1, 9, []int{1, 2, 3}}, // 1 by 10 from 2, 2 and 3 from 1
		{stack, 1, 10, []int{3}},      // by 30
		{stack, 2, 10, []int{3}},      // the median of 10 and 20 is 10
		{stack, 2, 29, []int{3}},
		{stack, 2, 30, nil},
		{far, 1, 199999, []int{1, 2}},
		{far, 1, 200000, nil},
		{nil, 1, 0, nil},
		{l[:1], 1, 0, nil},
		{l[:2], 1, 29, []int{1, 2}},
		{l[:2], 2, 0, nil},
		{line(26), 25, 12, []int{1, 26}}, // the middles are -1 to -26; 1 differs by 13 from -14, 26 from -13
		{line(26), 25, 13, nil},
		{line(25), 25, 0, nil},
		{line(500), 25, 200000, nil},
		{line(500), 1, 0, upTo(500)},
	} {
		got, e := sounding.Spikes(c.l, api.Spike{Count: c.count, Limit: c.limit})
		same(t, e, api.OK, "Spikes", c)
		sameList(t, got, c.want, "Spikes", c)
	}
}

// upTo is the numbers from 1 to n.
func upTo(n int) []int {
	var out []int
	for i := range n {
		out = append(out, i+1)
	}
	return out
}

func TestP33Errors(t *testing.T) {
	for _, l := range [][]api.Sounding{nil, example()} {
		for _, c := range []api.Spike{
			{}, {Count: 0, Limit: 5}, {Count: -1}, {Count: 26}, {Count: 1, Limit: -1}, {Count: 25, Limit: 200001}, {Count: math.MaxInt}, {Count: math.MinInt},
			{Count: 1, Limit: math.MaxInt}, {Count: 1, Limit: math.MinInt}, {Count: 26, Limit: -1},
		} {
			same(t, listed(sounding.Spikes(l, c)), refused(api.ErrRange), "Spikes", l, c)
		}
		for _, c := range []api.Spike{{Count: 25, Limit: 200000}, {Count: 1, Limit: 200000}, {Count: 25}} {
			same(t, listed(sounding.Spikes(l, c)), refused(api.OK), "Spikes", l, c)
		}
	}
}

// medianOf is the number of a list that has so many before it that it is the median.
func medianOf(l []int) int {
	for i, n := range l {
		before := 0
		for j, m := range l {
			if m < n || m == n && j < i {
				before++
			}
		}
		if before == (len(l)+1)/2-1 {
			return n
		}
	}
	panic("no median")
}

func TestP33Computed(t *testing.T) {
	s := &numbers{34}
	for range 1500 {
		l := s.sheet(12, 4)
		spike := api.Spike{Count: 1 + s.next(9), Limit: s.next(14)}
		var want []int
		for _, x := range l {
			var others []api.Sounding
			for _, o := range l {
				if o.Number != x.Number {
					others = append(others, o)
				}
			}
			if len(others) < spike.Count {
				continue
			}
			var middles []int
			for _, o := range others {
				if rank(others, o, api.Point{X: x.X, Y: x.Y}) < spike.Count {
					middles = append(middles, floorHalf(o.Lo+o.Hi))
				}
			}
			off := floorHalf(x.Lo+x.Hi) - medianOf(middles)
			if off > spike.Limit || off < -spike.Limit {
				want = append(want, x.Number)
			}
		}
		got, e := sounding.Spikes(l, spike)
		same(t, e, api.OK, "Spikes", l, spike)
		sameList(t, got, want, "Spikes", l, spike)
	}
}
