package tide_test

import (
	"slices"
	"testing"

	"draghead/api"
	"draghead/tide"
)

func TestP24Waters(t *testing.T) {
	for _, c := range []struct {
		g         api.Gauge
		high, low []api.Mark
		ranges    []int
	}{
		{exact(), nil, nil, nil},
		{exact(3, 7), marks(3, 7), marks(3, 7), nil},
		{exact(3, 7, 4, 7, 9, 7), marks(3, 7), marks(3, 7), nil}, // one level only
		{exact(0, 0, 10, 10, 20, 20, 30, 10), marks(20, 20), marks(0, 0, 30, 10), []int{20, 10}},
		{exact(0, 5, 1, 3), marks(0, 5), marks(1, 3), []int{2}},
		{exact(0, 3, 1, 5), marks(1, 5), marks(0, 3), []int{2}},
		{exact(0, 5, 1, 5, 2, 3, 3, 3), marks(0, 5), marks(2, 3), []int{2}},                          // the first mark of those at one level
		{exact(0, 3, 1, 5, 2, 5, 3, 7), marks(3, 7), marks(0, 3), []int{4}},                          // a stand on the way up
		{exact(0, 7, 1, 5, 2, 5, 3, 3), marks(0, 7), marks(3, 3), []int{4}},                          // and on the way down
		{exact(0, 1, 1, 5, 2, 5, 3, 1), marks(1, 5), marks(0, 1, 3, 1), []int{4, 4}},                 // a stand at high water
		{exact(0, 5, 1, 5, 2, 9, 3, 2), marks(2, 9), marks(0, 5, 3, 2), []int{4, 7}},                 // a stand at the beginning
		{exact(0, -5, 1, 5, 2, -6, 3, 6), marks(1, 5, 3, 6), marks(0, -5, 2, -6), []int{10, 11, 12}}, // up and down
	} {
		high, e := tide.HighWaters(c.g)
		same(t, e, api.OK, "HighWaters", c.g)
		sameList(t, high, c.high, "HighWaters", c.g)
		low, e := tide.LowWaters(c.g)
		same(t, e, api.OK, "LowWaters", c.g)
		sameList(t, low, c.low, "LowWaters", c.g)
		ranges, e := tide.Ranges(c.g)
		same(t, e, api.OK, "Ranges", c.g)
		sameList(t, ranges, c.ranges, "Ranges", c.g)
	}
}

// The waters are those of the record without the marks that are level with the one before them: there every inner one is between its neighbours, or turns.
func TestP24WatersComputed(t *testing.T) {
	s := &numbers{4}
	for range 2000 {
		g := s.gauge(12, 2)
		var high, low, both []api.Mark
		l := slices.CompactFunc(slices.Clone(g.Marks), func(a, b api.Mark) bool { return a.Level == b.Level })
		for i, m := range l {
			up := (i == 0 || l[i-1].Level < m.Level) && (i == len(l)-1 || l[i+1].Level < m.Level)
			down := (i == 0 || l[i-1].Level > m.Level) && (i == len(l)-1 || l[i+1].Level > m.Level)
			if up {
				high = append(high, m)
			}
			if down {
				low = append(low, m)
			}
			if up || down {
				both = append(both, m)
			}
		}
		got, _ := tide.HighWaters(g)
		sameList(t, got, high, "HighWaters", g)
		got, _ = tide.LowWaters(g)
		sameList(t, got, low, "LowWaters", g)
		var want []int
		for i := 1; i < len(both); i++ {
			d := both[i].Level - both[i-1].Level
			want = append(want, max(d, -d))
		}
		ranges, _ := tide.Ranges(g)
		sameList(t, ranges, want, "Ranges", g)
	}
}
