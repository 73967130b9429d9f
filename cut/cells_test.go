package cut_test

import (
	"math"
	"testing"

	"draghead/api"
	"draghead/bed"
	"draghead/cut"
	"draghead/soil"
)

func TestP76Safe(t *testing.T) {
	s := wide(3, 3)
	s.Bed.Levels[4] = u // known or not
	s.Zones = []api.Region{
		zone("inside", 2100, 100, 2500, 100, 2500, 200),
		zone("side", 2000, 100, 2500, 100, 2500, 200),
		zone("corner", 1000, 1000, 1100, 1100, 1100, 1200),
		zone("around", -9000, -9000, 9000, -9000, 0, 9000),
		zone("across", -1000, 1500, 4000, 1501, -1000, 1502),
		zone("far", 3001, 0, 4000, 0, 4000, 3000),
		zone("near", 3000, 0, 4000, 0, 4000, 3000),
		zone("bay", -1, -1, 3001, -1, 3001, 3001, 2999, 3001, 2999, 1, -1, 1),
	}
	s.Zones[2].Kind = 99
	for name, want := range map[string][]int{
		"inside": {2}, "side": {1, 2}, "corner": {0, 1, 3, 4}, "around": {0, 1, 2, 3, 4, 5, 6, 7, 8}, "across": {3, 4, 5},
		"far": nil, "near": {2}, "bay": {0, 1, 2, 5, 8},
	} {
		got, e := cut.Safe(s, name)
		same(t, e, api.OK, "Safe", name)
		sameList(t, got, want, "Safe", name)
	}
	for _, name := range []string{"", "Inside", "insid", "inside ", "q", "g", "c", "?"} {
		same(t, of(cut.Safe(s, name)), refused(api.ErrMissing), "Safe", name)
	}
	s.Zones = nil
	same(t, of(cut.Safe(s, "inside")), refused(api.ErrMissing), "Safe without zones")
}

func TestP76Greatest(t *testing.T) {
	front := quay("q", 0, 0, 3000, 0, -500, 100) // -550 in the row 0, -650 in the row 1
	deep := quay("r", 0, 0, 3000, 0, -900, 100)
	for k, x := range []struct {
		cols   int
		levels []int
		quays  []api.Quay
		zones  []api.Region
		cell   int
		want   int
	}{
		{3, []int{-500, -500, -500}, nil, nil, 0, -600},
		{3, []int{-500, -500, -500}, nil, nil, 1, -600},
		{3, []int{-500, -500, -560}, nil, nil, 1, -600},
		{3, []int{-520, -500, -560}, nil, nil, 1, -620},
		{3, []int{-520, -500, -510}, nil, nil, 1, -610},
		{3, []int{-520, -500, -510}, nil, nil, 0, -600},
		{3, []int{u, -500, -560}, nil, nil, 1, -660},
		{3, []int{u, -500, u}, nil, nil, 1, -highest}, // nothing is in the way
		{1, []int{-500}, nil, nil, 0, -highest},
		{1, []int{-highest}, nil, nil, 0, -highest},
		{2, []int{highest, -highest + 50}, nil, nil, 0, -highest}, // not below the lowest level
		{2, []int{highest, -highest}, nil, nil, 1, -highest},      // it is too low already
		{2, []int{-500, -700}, nil, nil, 1, -700},
		{2, []int{-500, -700}, nil, nil, 0, -800},
		{2, []int{-500, -600}, nil, nil, 1, -600},
		{2, []int{-500, -599}, nil, nil, 1, -600},
		// rows
		{2, []int{-500, u, -450, u}, nil, nil, 0, -550},
		{2, []int{-500, u, -450, u}, nil, nil, 2, -600},
		{3, []int{0, -510, 0, -520, -500, -530, 0, -505, 0}, nil, nil, 4, -605},
		{3, []int{0, -510, 0, -520, -500, -530, 0, -511, 0}, nil, nil, 4, -610},
		{3, []int{0, -550, 0, -520, -500, -530, 0, -540, 0}, nil, nil, 4, -620},
		{3, []int{0, -550, 0, -540, -500, -530, 0, -540, 0}, nil, nil, 4, -630},
		// quays
		{3, []int{-500, -500, -500}, []api.Quay{front}, nil, 0, -550},
		{3, []int{-500, -500, -500}, []api.Quay{deep}, nil, 0, -600},
		{3, []int{-500, -500, -500}, []api.Quay{deep, front}, nil, 1, -550},
		{3, []int{-500, -500, -500}, []api.Quay{front, deep}, nil, 1, -550},
		{3, []int{-560, -500, -500}, []api.Quay{front}, nil, 0, -560}, // it is too low already
		{3, []int{-530, -430, -500}, []api.Quay{front}, nil, 0, -530},
		{3, []int{u, -500, u, -500, u, -500}, []api.Quay{front}, nil, 1, -550},
		{3, []int{u, -500, u, -500, u, -500}, []api.Quay{front}, nil, 3, -650},
		{3, []int{u, -500, u}, []api.Quay{quay("q", 0, 0, 1499, 0, -500, 100)}, nil, 1, -highest}, // no wedge there
		{3, []int{u, -500, u}, []api.Quay{quay("q", 3000, 0, 0, 0, -500, 100)}, nil, 1, -highest},
		{3, []int{u, -500, u}, []api.Quay{quay("q", 0, 0, 1500, 0, -500, 100)}, nil, 1, -550},
		{3, []int{u, -500, u}, []api.Quay{quay("q", 0, 0, 1500, 0, highest, 100)}, nil, 1, -500},
		// zones
		{3, []int{u, -500, u}, nil, []api.Region{zone("z", 2000, 100, 2500, 100, 2500, 200)}, 1, -500},
		{3, []int{u, -500, u}, nil, []api.Region{zone("y", -9, 0, -8, 0, -8, 1), zone("z", 2000, 100, 2500, 100, 2500, 200)}, 1, -500},
		{3, []int{u, -500, u}, nil, []api.Region{zone("z", 2001, 100, 2500, 100, 2500, 200)}, 1, -highest},
		{3, []int{-300, -900, u}, nil, []api.Region{zone("z", 2000, 100, 2500, 100, 2500, 200)}, 1, -900},
	} {
		s := wide(x.cols, len(x.levels)/x.cols)
		s.Bed.Levels, s.Quays, s.Zones = x.levels, x.quays, x.zones
		got, e := cut.Greatest(s, x.cell)
		same(t, e, api.OK, "Greatest", k, x)
		same(t, got, x.want, "Greatest", k, x)
	}
}

func TestP76GreatestErrors(t *testing.T) {
	s := example(-500, u, -500)
	s.Zones = []api.Region{zone("z", -9000, -9000, 9000, -9000, 0, 9000)}
	for cell, want := range map[int]api.Errno{
		0: api.OK, 2: api.OK, 1: api.ErrUnknown, 3: api.ErrMissing, -1: api.ErrMissing, math.MaxInt: api.ErrMissing, math.MinInt: api.ErrMissing,
	} {
		n, e := cut.Greatest(s, cell)
		same(t, e, want, "Greatest", cell)
		same(t, n, map[bool]int{true: -500, false: 0}[want == api.OK], "Greatest", cell)
	}
}

func TestP76Computed(t *testing.T) {
	s := &numbers{76}
	by := map[string]int{}
	for range 1500 {
		site := s.site(5, s.next(5))
		for i, level := range site.Bed.Levels {
			if level != u && s.next(5) == 0 {
				site.Bed.Levels[i] = level - 20*s.next(5)
			}
		}
		for k, z := range site.Zones {
			var want []int
			one := site
			one.Zones = site.Zones[k : k+1]
			for i := range site.Bed.Levels {
				if inZone(one, i) {
					want = append(want, i)
				}
			}
			got, e := cut.Safe(site, z.Name)
			same(t, e, api.OK, "Safe", site, z)
			sameList(t, got, want, "Safe", site, z)
		}
		for i, level := range site.Bed.Levels {
			got, e := cut.Greatest(site, i)
			if level == u {
				same(t, of(got, e), refused(api.ErrUnknown), "Greatest", site, i)
				continue
			}
			want, why := greatest(site, i)
			same(t, e, api.OK, "Greatest", site, i)
			same(t, got, want, "Greatest", site, i)
			by[why]++
		}
	}
	same(t, by["zone"] > 100 && by["quay"] > 100 && by["slope"] > 100 && by["none"] > 10 && by["itself"] > 10, true, "all kinds of cells are looked at", by)
}

// greatest is the level that Greatest returns for a known cell, and what stands in the way.
func greatest(s api.Site, i int) (int, string) {
	if inZone(s, i) {
		return s.Bed.Levels[i], "zone"
	}
	out, why := -highest, "none"
	for _, q := range s.Quays {
		w, _ := soil.Wedge(q, s.Bed)
		if n := w.Levels[i]; n != u && n > out {
			out, why = n, "quay"
		}
	}
	near, _ := bed.Near(s.Bed, i)
	for _, k := range near {
		most, _ := soil.Allowed(s.Ground, s.Bed, i, k)
		if n := s.Bed.Levels[k] - most; s.Bed.Levels[k] != u && n > out {
			out, why = n, "slope"
		}
	}
	if out >= s.Bed.Levels[i] {
		return s.Bed.Levels[i], "itself"
	}
	return out, why
}
