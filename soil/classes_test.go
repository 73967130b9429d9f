package soil_test

import (
	"math"
	"slices"
	"testing"

	"draghead/api"
	"draghead/soil"
)

const mostValue = 1000000000

func rule(num, den, least int) api.RankRule { return api.RankRule{Num: num, Den: den, Least: least} }

func standard(substance string, limits ...int) api.Standard {
	return api.Standard{Substance: substance, Limits: limits}
}

// badRules is rules that are not in range.
func badRules() []api.RankRule {
	return []api.RankRule{
		{}, rule(1, 0, 1), rule(0, 0, 1), rule(-1, -1, 1), rule(1, 1001, 1), rule(1001, 1001, 1), rule(0, 1, 1), rule(-1, 5, 1), rule(2, 1, 1), rule(5, 4, 1),
		rule(1, 1, 0), rule(1, 1, -1), rule(1, 1, 61), rule(math.MaxInt, math.MaxInt, 1), rule(1, 1, math.MaxInt), rule(math.MinInt, 1, 1), rule(1, 1, math.MinInt),
	}
}

func TestP68Ranked(t *testing.T) {
	ten := []int{5, 3, 9, 1, 7, 10, 2, 8, 6, 4}
	for _, x := range []struct {
		values []int
		r      api.RankRule
		want   int
	}{
		{[]int{10, 40, 20, 30}, rule(3, 4, 1), 30},
		{[]int{10, 40, 20, 30}, rule(3, 4, 4), 30},
		{[]int{10, 40, 20, 30}, rule(1, 4, 1), 10},
		{[]int{10, 40, 20, 30}, rule(2, 4, 1), 20},
		{[]int{10, 40, 20, 30}, rule(1, 2, 1), 20},
		{[]int{10, 40, 20, 30}, rule(1, 1, 1), 40},
		{[]int{10, 40, 20, 30}, rule(1, 1000, 1), 10},
		{[]int{10, 40, 20, 30}, rule(251, 1000, 1), 20}, // 1.004, rounded up
		{[]int{10, 40, 20, 30}, rule(250, 1000, 1), 10},
		{[]int{10, 40, 20, 30}, rule(751, 1000, 1), 40},
		{[]int{10, 40, 20, 30}, rule(999, 1000, 1), 40},
		{[]int{10, 40, 20, 30}, rule(1000, 1000, 1), 40},
		{ten, rule(9, 10, 10), 9},
		{ten, rule(95, 100, 1), 10},
		{ten, rule(1, 3, 1), 4},
		{ten, rule(1, 2, 1), 5},
		{[]int{7}, rule(1, 1000, 1), 7},
		{[]int{7}, rule(1000, 1000, 1), 7},
		{[]int{7, 7, 3}, rule(2, 3, 3), 7}, // one value twice counts twice
		{[]int{7, 3, 3}, rule(2, 3, 3), 3},
		{[]int{0, mostValue}, rule(1, 2, 1), 0},
		{[]int{0, mostValue}, rule(1, 1, 1), mostValue},
		{slices.Repeat([]int{3, 4}, 30), rule(1, 2, 60), 3},
		{slices.Repeat([]int{3, 4}, 30), rule(501, 1000, 60), 4},
	} {
		got, e := soil.Ranked(x.values, x.r)
		same(t, e, api.OK, "Ranked", x)
		same(t, got, x.want, "Ranked", x)
	}
	for _, x := range []struct {
		values []int
		r      api.RankRule
		want   api.Errno
	}{
		{make([]int, 61), rule(1, 2, 5), api.ErrLarge},
		{slices.Repeat([]int{-1}, 61), rule(1, 2, 5), api.ErrLarge}, // before ErrRange
		{[]int{-1}, rule(1, 2, 5), api.ErrRange},                    // before ErrNone
		{[]int{1, 2, mostValue + 1}, rule(1, 2, 1), api.ErrRange},
		{[]int{1, math.MinInt, 2}, rule(1, 2, 1), api.ErrRange},
		{[]int{math.MaxInt}, rule(1, 2, 1), api.ErrRange},
		{nil, rule(1, 2, 1), api.ErrNone},
		{[]int{}, rule(1, 1000, 1), api.ErrNone},
		{[]int{1, 2}, rule(1, 2, 3), api.ErrNone},
		{make([]int, 59), rule(1, 2, 60), api.ErrNone},
	} {
		same(t, of(soil.Ranked(x.values, x.r)), refused(x.want), "Ranked", x)
	}
	for _, r := range badRules() {
		same(t, of(soil.Ranked([]int{5, 6}, r)), refused(api.ErrRange), "Ranked", r)
		same(t, of(soil.Ranked(make([]int, 61), r)), refused(api.ErrRange), "Ranked", r) // before ErrLarge
		same(t, of(soil.Ranked(nil, r)), refused(api.ErrRange), "Ranked", r)
	}
}

// ranked is the least value that enough values are not above.
func ranked(values []int, r api.RankRule) int {
	best := mostValue
	for _, n := range values {
		count := 0
		for _, other := range values {
			if other <= n {
				count++
			}
		}
		if count*r.Den >= len(values)*r.Num {
			best = min(best, n)
		}
	}
	return best
}

// rule is a rule for at least one value.
func (s *numbers) rule() api.RankRule {
	den := 1 + s.next([]int{5, 100, 1000}[s.next(3)])
	return rule(1+s.next(den), den, 1)
}

// values is values up to most, at least one.
func (s *numbers) values(most int) []int {
	var out []int
	for range 1 + s.next([]int{5, 60}[s.next(2)]) {
		out = append(out, s.next(most+1))
	}
	return out
}

func TestP68RankedComputed(t *testing.T) {
	s := &numbers{69}
	for range 3000 {
		l, r := s.values([]int{3, 20, mostValue}[s.next(3)]), s.rule()
		r.Least = 1 + s.next(len(l))
		got, e := soil.Ranked(l, r)
		same(t, e, api.OK, "Ranked", l, r)
		same(t, got, ranked(l, r), "Ranked", l, r)
	}
}

func TestP68Class(t *testing.T) {
	l := append(lot("zinc", 10, 40, 20, 30), lot("lead", 5, 500)...)
	for _, x := range []struct {
		s    api.Standard
		r    api.RankRule
		want int
	}{
		{standard("zinc", 15, 30), rule(3, 4, 2), 2},
		{standard("zinc", 15, 30), rule(3, 4, 4), 2},
		{standard("zinc", 15, 31), rule(3, 4, 2), 1},
		{standard("zinc", 30), rule(3, 4, 2), 1},
		{standard("zinc", 31), rule(3, 4, 2), 0},
		{standard("zinc", 15, 30), rule(1, 4, 2), 0},
		{standard("zinc", 0, 1, 2, 3, mostValue), rule(1, 4, 2), 4},
		{standard("zinc", 0, 1, 2, 3, 4), rule(1, 4, 2), 5},
		{standard("lead", 15, 30), rule(1, 2, 2), 0},
		{standard("lead", 15, 30), rule(1, 1, 2), 2},
		{standard("lead", mostValue), rule(1, 1, 2), 0},
	} {
		got, e := soil.Class(l, x.s, x.r)
		same(t, e, api.OK, "Class", x)
		same(t, got, x.want, "Class", x)
	}
	for _, x := range []struct {
		s    api.Standard
		r    api.RankRule
		want api.Errno
	}{
		{standard("zinc", 15, 30), rule(3, 4, 5), api.ErrNone},
		{standard("lead", 15, 30), rule(3, 4, 3), api.ErrNone},
		{standard("tin", 15, 30), rule(3, 4, 1), api.ErrNone},
		{standard("Zinc", 15, 30), rule(3, 4, 1), api.ErrNone},
		{standard("zinc", 15, 30), rule(5, 4, 5), api.ErrRange}, // before ErrNone
		{standard("zinc", 15, 15), rule(5, 4, 5), api.ErrOrder},
	} {
		same(t, of(soil.Class(l, x.s, x.r)), refused(x.want), "Class", x)
	}
	for _, r := range badRules() {
		same(t, of(soil.Class(l, standard("tin", 1), r)), refused(api.ErrRange), "Class", r)
	}
	same(t, of(soil.Class(nil, standard("zinc", 0), rule(1, 1, 1))), refused(api.ErrNone), "Class of no samples")
}

func TestP68Standards(t *testing.T) {
	l := lot("zinc", 10, 40, 20, 30)
	for _, x := range []struct {
		s    api.Standard
		want api.Errno
	}{
		{standard(""), api.ErrName},
		{standard("9", 1), api.ErrName},
		{standard("zin c", 1), api.ErrName},
		{standard("A-12345678901", 1), api.ErrName},
		{standard("zinc"), api.ErrShape},
		{standard("zinc", []int{}...), api.ErrShape},
		{standard("zinc", 1, 2, 3, 4, 5, 6), api.ErrLarge},
		{standard("zinc", -1, -1, -1, -1, -1, -1), api.ErrLarge}, // before ErrRange
		{standard("zinc", -1), api.ErrRange},
		{standard("zinc", mostValue+1), api.ErrRange},
		{standard("zinc", 1, mostValue+1, 0), api.ErrRange},
		{standard("zinc", 1, -1), api.ErrRange}, // before ErrOrder
		{standard("zinc", 1, math.MinInt), api.ErrRange},
		{standard("zinc", math.MaxInt), api.ErrRange},
		{standard("zinc", 1, 1), api.ErrOrder},
		{standard("zinc", 2, 1, -1), api.ErrOrder},
		{standard("zinc", 1, 2, 3, 4, 4), api.ErrOrder},
	} {
		same(t, of(soil.Class(l, x.s, api.RankRule{})), refused(x.want), "Class", x)
		same(t, of(soil.Worst(l, []api.Standard{x.s}, api.RankRule{})), refused(x.want), "Worst", x)
		same(t, of(soil.Worst(l, []api.Standard{standard("tin", 1), x.s, {}}, api.RankRule{})), refused(x.want), "Worst", x)
	}
}

func TestP68Worst(t *testing.T) {
	l := append(lot("zinc", 10, 40, 20, 30), lot("lead", 5, 500)...)
	zinc, lead := standard("zinc", 15, 30, 40), standard("lead", 5, 6)
	for _, x := range []struct {
		s    []api.Standard
		r    api.RankRule
		want int
	}{
		{nil, rule(1, 1, 1), 0},
		{nil, rule(1, 1, 60), 0},
		{[]api.Standard{zinc}, rule(3, 4, 1), 2},
		{[]api.Standard{lead}, rule(1, 2, 1), 1},
		{[]api.Standard{zinc, lead}, rule(1, 4, 2), 1},
		{[]api.Standard{lead, zinc}, rule(1, 4, 2), 1},
		{[]api.Standard{zinc, lead}, rule(1, 1, 2), 3},
		{[]api.Standard{lead, zinc}, rule(1, 1, 2), 3},
		{[]api.Standard{zinc, standard("lead", 501)}, rule(1, 4, 2), 0},
	} {
		got, e := soil.Worst(l, x.s, x.r)
		same(t, e, api.OK, "Worst", x)
		same(t, got, x.want, "Worst", x)
	}
	for _, x := range []struct {
		s    []api.Standard
		r    api.RankRule
		want api.Errno
	}{
		{make([]api.Standard, 9), api.RankRule{}, api.ErrLarge},
		{make([]api.Standard, 8), api.RankRule{}, api.ErrName},
		{[]api.Standard{zinc, zinc}, api.RankRule{}, api.ErrExists},
		{[]api.Standard{zinc, lead, standard("zinc")}, rule(1, 1, 1), api.ErrExists}, // before ErrShape
		{[]api.Standard{standard("zinc"), standard("zinc")}, rule(1, 1, 1), api.ErrShape},
		{[]api.Standard{zinc, standard("-"), standard("zinc")}, rule(1, 1, 1), api.ErrName},
		{[]api.Standard{zinc, lead}, rule(1, 1, 3), api.ErrNone},
		{[]api.Standard{lead, zinc}, rule(1, 1, 3), api.ErrNone},
		{[]api.Standard{zinc, standard("tin", 1)}, rule(1, 1, 1), api.ErrNone},
		{[]api.Standard{zinc, standard("tin", 1), standard("zinc", 1)}, rule(1, 1, 1), api.ErrExists}, // before ErrNone
	} {
		same(t, of(soil.Worst(l, x.s, x.r)), refused(x.want), "Worst", x)
	}
	for _, r := range badRules() {
		same(t, of(soil.Worst(nil, nil, r)), refused(api.ErrRange), "Worst", r)
		same(t, of(soil.Worst(l, []api.Standard{zinc, standard("tin", 1)}, r)), refused(api.ErrRange), "Worst", r)
	}
}

// mixed is samples of three substances, and standards of some of them.
func (s *numbers) mixed() ([]api.Sample, []api.Standard) {
	names := []string{"zinc", "lead", "tin"}
	var l []api.Sample
	for k, n := range s.values(20) {
		l = append(l, sample("s"+string([]byte{byte('A' + k/26), byte('a' + k%26)}), names[s.next(3)], 0, 0, 1, 0, n))
	}
	var out []api.Standard
	for _, name := range names[:s.next(4)] {
		x := standard(name)
		for limit := s.next(8); limit <= 22 && len(x.Limits) < 5; limit += 1 + s.next(8) {
			x.Limits = append(x.Limits, limit)
		}
		out = append(out, x)
	}
	return l, out
}

func TestP68ClassesComputed(t *testing.T) {
	s := &numbers{70}
	counts := map[api.Errno]int{}
	for range 2000 {
		l, standards := s.mixed()
		r := s.rule()
		r.Least = 1 + s.next(4)
		worst, e := 0, api.OK
		for _, x := range standards {
			var values []int
			for _, one := range l {
				if one.Substance == x.Substance {
					values = append(values, one.Value)
				}
			}
			if len(values) < r.Least {
				e = api.ErrNone
				same(t, of(soil.Class(l, x, r)), refused(api.ErrNone), "Class", l, x, r)
				continue
			}
			want := len(x.Limits)
			for want > 0 && x.Limits[want-1] > ranked(values, r) {
				want--
			}
			worst = max(worst, want)
			got, e := soil.Class(l, x, r)
			same(t, e, api.OK, "Class", l, x, r)
			same(t, got, want, "Class", l, x, r)
		}
		counts[e]++
		got, f := soil.Worst(l, standards, r)
		same(t, f, e, "Worst", l, standards, r)
		if e != api.OK {
			worst = 0
		}
		same(t, got, worst, "Worst", l, standards, r)
	}
	same(t, counts[api.OK] > 400 && counts[api.ErrNone] > 200, true, "all kinds of lots are looked at", counts)
}
