package sounding_test

import (
	"math"
	"slices"
	"testing"

	"draghead/api"
	"draghead/sounding"
)

const (
	farthest = api.MaxPlace
	highest  = 100000
)

// invalidSoundings is soundings of which one field is not as required.
func invalidSoundings() []api.Sounding {
	return []api.Sounding{
		{}, at(0, 0, 0, 0, 0), at(-1, 0, 0, 0, 0), at(api.MaxNumber+1, 0, 0, 0, 0), at(math.MaxInt, 0, 0, 0, 0), at(math.MinInt, 0, 0, 0, 0),
		at(1, farthest+1, 0, 0, 0), at(1, -farthest-1, 0, 0, 0), at(1, math.MaxInt, 0, 0, 0), at(1, math.MinInt, 0, 0, 0),
		at(1, 0, farthest+1, 0, 0), at(1, 0, -farthest-1, 0, 0), at(1, 0, math.MaxInt, 0, 0), at(1, 0, math.MinInt, 0, 0),
		at(1, 0, 0, 1, 0), at(1, 0, 0, -499, -500), at(1, 0, 0, highest, -highest), at(1, 0, 0, math.MaxInt, math.MinInt),
		at(1, 0, 0, -highest-1, 0), at(1, 0, 0, 0, highest+1), at(1, 0, 0, highest+1, highest+1), at(1, 0, 0, -highest-1, -highest-1),
		at(1, 0, 0, math.MinInt, 0), at(1, 0, 0, 0, math.MaxInt), at(1, 0, 0, math.MinInt, math.MaxInt),
	}
}

// extremes is soundings at the ends of what is valid.
func extremes() []api.Sounding {
	return []api.Sounding{
		at(1, -farthest, farthest, -highest, highest), at(api.MaxNumber, farthest, -farthest, highest, highest), at(2, 0, 0, -highest, -highest), at(3, 0, 0, 0, 0),
	}
}

// faulty is sheets with an error.
func faulty() map[api.Errno][]api.Sounding {
	return map[api.Errno][]api.Sounding{
		api.ErrLarge:  line(501),
		api.ErrRange:  {at(1, 0, 0, 0, 0), at(2, 0, 0, 1, 0), at(1, 0, 0, 0, 0)},
		api.ErrExists: {at(1, 0, 0, 0, 0), at(1, 9, 0, 0, 0), at(2, 0, 0, 1, 0)},
	}
}

func TestP32Check(t *testing.T) {
	one := at(1, 0, 0, -5, -4)
	for _, c := range []struct {
		l    []api.Sounding
		want api.Errno
	}{
		{nil, api.OK},
		{[]api.Sounding{}, api.OK},
		{example(), api.OK},
		{extremes(), api.OK},
		{line(500), api.OK},
		{line(501), api.ErrLarge},
		{make([]api.Sounding, 501), api.ErrLarge}, // before ErrRange
		{make([]api.Sounding, 500), api.ErrRange},
		{[]api.Sounding{one, one}, api.ErrExists},
		{[]api.Sounding{one, at(1, 5, 6, 7, 8)}, api.ErrExists}, // equal numbers are enough
		{[]api.Sounding{one, at(2, 0, 0, -5, -4)}, api.OK},      // and equal places allowed
		{[]api.Sounding{one, at(2, 0, 0, 0, 0), one}, api.ErrExists},
		{[]api.Sounding{one, at(1, 0, 0, 1, 0)}, api.ErrRange},                    // before ErrExists
		{[]api.Sounding{one, one, at(2, 0, 0, 1, 0)}, api.ErrExists},              // the second one comes before the third one
		{[]api.Sounding{one, at(2, 0, 0, 1, 0), at(1, 0, 0, 0, 0)}, api.ErrRange}, // and here too
		{append(line(499), one), api.ErrExists},
		{append(line(499), at(500, 0, 0, 1, 0)), api.ErrRange},
	} {
		same(t, sounding.Check(c.l), c.want, "Check", c.l)
	}
	for _, s := range invalidSoundings() {
		same(t, sounding.Check([]api.Sounding{s}), api.ErrRange, "Check", s)
		same(t, sounding.Check([]api.Sounding{at(9, 0, 0, 0, 0), s}), api.ErrRange, "Check", s)
	}
}

// Whatever else is wrong, the error of the sheet comes first.
func TestP32AllFunctions(t *testing.T) {
	for want, l := range faulty() {
		same(t, sounding.Check(l), want, "Check", l)
		allRefused(t, sheetCalls(l), want, l)
	}
	for _, s := range invalidSoundings() {
		allRefused(t, sheetCalls([]api.Sounding{s}), api.ErrRange, s)
	}
	for want, l := range faulty() {
		for _, other := range faulty() {
			same(t, listed(sounding.Merge(l, other)), refused(want), "Merge", l, other)
			same(t, listed(sounding.Cross(l, other, 0)), refused(want), "Cross", l, other)
		}
	}
}

func TestP32Near(t *testing.T) {
	twins := []api.Sounding{at(9, 3, 4, 0, 0), at(4, -5, 0, 0, 0), at(7, 0, 5, 0, 0), at(8, 3, 4, 0, 0), at(2, 6, 0, 0, 0), at(5, 4, -3, 0, 0)}
	corners := []api.Sounding{at(1, -farthest, -farthest, 0, 0), at(2, farthest, farthest, 0, 0), at(3, farthest, -farthest, 0, 0)}
	for _, c := range []struct {
		l    []api.Sounding
		x, y int
		n    int
		want []int
	}{
		{example(), 0, 0, 2, []int{1, 2}},
		{example(), 0, 0, 0, nil},
		{example(), 0, 0, 4, []int{1, 2, 3, 4}},
		{example(), 30, 40, 9, []int{2, 1, 3, 4}}, // 1 and 3 are as far
		{example(), 60, 80, math.MaxInt, []int{3, 2, 1, 4}},
		{example(), 900, 1, 1, []int{4}},
		{example(), -1000, 0, 3, []int{1, 2, 3}},
		{twins, 0, 0, 6, []int{4, 5, 7, 8, 9, 2}},
		{twins, 0, 0, 3, []int{4, 5, 7}},
		{twins, 3, 4, 2, []int{8, 9}},
		{nil, 0, 0, 5, nil},
		{nil, 0, 0, 0, nil},
		{corners, farthest, farthest, 9, []int{2, 3, 1}},
		{corners, -farthest, -farthest, 2, []int{1, 3}},
		{line(500), 0, 0, 3, []int{1, 2, 3}},
	} {
		got, e := sounding.Near(c.l, api.Point{X: c.x, Y: c.y}, c.n)
		same(t, e, api.OK, "Near", c)
		sameList(t, got, c.want, "Near", c)
	}
}

func TestP32NearErrors(t *testing.T) {
	for _, p := range []api.Point{
		{X: farthest + 1}, {X: -farthest - 1}, {Y: farthest + 1}, {Y: -farthest - 1}, {X: math.MaxInt}, {X: math.MinInt}, {Y: math.MaxInt}, {Y: math.MinInt},
	} {
		same(t, listed(sounding.Near(example(), p, 1)), refused(api.ErrRange), "Near", p)
		same(t, listed(sounding.Near(nil, p, 0)), refused(api.ErrRange), "Near", p)
	}
	for _, n := range []int{-1, -5, math.MinInt} {
		same(t, listed(sounding.Near(example(), api.Point{}, n)), refused(api.ErrRange), "Near", n)
		same(t, listed(sounding.Near(nil, api.Point{}, n)), refused(api.ErrRange), "Near", n)
	}
}

// precedes reports whether a is nearer to p than b.
func precedes(a, b api.Sounding, p api.Point) bool {
	there := api.Sounding{X: p.X, Y: p.Y}
	return apart(a, there) < apart(b, there) || apart(a, there) == apart(b, there) && a.Number < b.Number
}

// rank is how many soundings are nearer to p.
func rank(l []api.Sounding, s api.Sounding, p api.Point) int {
	n := 0
	for _, other := range l {
		if precedes(other, s, p) {
			n++
		}
	}
	return n
}

func TestP32NearComputed(t *testing.T) {
	s := &numbers{32}
	for range 500 {
		l := s.sheet(12, 4)
		p := api.Point{X: s.around(5), Y: s.around(5)}
		n := s.next(15)
		want := make([]int, min(n, len(l)))
		for _, x := range l {
			if r := rank(l, x, p); r < len(want) {
				want[r] = x.Number
			}
		}
		got, e := sounding.Near(l, p, n)
		same(t, e, api.OK, "Near", l, p, n)
		sameList(t, got, want, "Near", l, p, n)
	}
}

func TestP32Without(t *testing.T) {
	l := example()
	mixed := []api.Sounding{l[3], l[0], l[2], l[1]}
	for _, c := range []struct {
		l       []api.Sounding
		numbers []int
		want    []api.Sounding
		e       api.Errno
	}{
		{l, nil, l, api.OK},
		{l, []int{}, l, api.OK},
		{l, []int{2}, []api.Sounding{l[0], l[2], l[3]}, api.OK},
		{l, []int{4, 1, 4}, l[1:3], api.OK}, // a number may be listed twice
		{mixed, []int{1}, []api.Sounding{l[3], l[2], l[1]}, api.OK},
		{mixed, []int{1, 2, 3, 4}, nil, api.OK},
		{nil, nil, nil, api.OK},
		{l, []int{5}, nil, api.ErrMissing},
		{l, []int{1, 2, 0}, nil, api.ErrMissing},
		{l, []int{5, 1}, nil, api.ErrMissing},
		{l, []int{-1}, nil, api.ErrMissing},
		{l, []int{1, 2, 3, 4, math.MaxInt}, nil, api.ErrMissing},
		{nil, []int{1}, nil, api.ErrMissing},
		{l, slices.Repeat([]int{3}, 2000), []api.Sounding{l[0], l[1], l[3]}, api.OK}, // there is no limit
	} {
		got, e := sounding.Without(c.l, c.numbers)
		same(t, e, c.e, "Without", c)
		sameList(t, got, c.want, "Without", c)
	}
}

func TestP32Merge(t *testing.T) {
	l := example()
	off := func(s api.Sounding, change func(*api.Sounding)) []api.Sounding {
		change(&s)
		return []api.Sounding{s}
	}
	upper := line(501)[250:]
	for _, c := range []struct {
		a, b, want []api.Sounding
		e          api.Errno
	}{
		{nil, nil, nil, api.OK},
		{l, nil, l, api.OK},
		{nil, l, l, api.OK},
		{l, l, l, api.OK},
		{l[2:], []api.Sounding{l[1], l[3], l[0]}, l, api.OK},
		{[]api.Sounding{l[3], l[1]}, []api.Sounding{l[2]}, l[1:], api.OK},
		{[]api.Sounding{l[3], l[1], l[0]}, nil, []api.Sounding{l[0], l[1], l[3]}, api.OK},
		{line(500), line(500), line(500), api.OK},
		{line(250), line(500)[250:], line(500), api.OK},
		{line(250), upper, nil, api.ErrLarge},
		{line(500), line(501)[500:], nil, api.ErrLarge},
		{line(500), nil, line(500), api.OK},
		{l, off(l[3], func(s *api.Sounding) { s.Hi++ }), nil, api.ErrConflict},
		{l, off(l[3], func(s *api.Sounding) { s.Lo++ }), nil, api.ErrConflict},
		{l, off(l[3], func(s *api.Sounding) { s.X++ }), nil, api.ErrConflict},
		{l, off(l[3], func(s *api.Sounding) { s.Y++ }), nil, api.ErrConflict},
		{l, off(l[3], func(s *api.Sounding) { s.Number = 1 }), nil, api.ErrConflict},
		{l, off(l[3], func(s *api.Sounding) { s.Number = 5 }), append(example(), at(5, 900, 0, -900, -890)), api.OK},
		{line(250), append(upper[:250:250], at(250, 0, 0, 0, 0), at(600, 0, 0, 0, 0)), nil, api.ErrConflict}, // before ErrLarge
		{append(line(250), at(501, 0, 0, 0, 0)), upper, nil, api.ErrConflict},
	} {
		got, e := sounding.Merge(c.a, c.b)
		same(t, e, c.e, "Merge", c.a, c.b)
		sameList(t, got, c.want, "Merge", c.a, c.b)
	}
}

func TestP32MergeComputed(t *testing.T) {
	s := &numbers{33}
	for range 1000 {
		a, b := s.sheet(5, 3), s.sheet(5, 3)
		for _, x := range a { // some that are in both
			if _, is := find(b, x.Number); !is && s.next(3) == 0 {
				b = append(b, x)
			}
		}
		var want []api.Sounding
		clash := false
		for number := range 20 {
			x, is := find(a, number)
			y, also := find(b, number)
			clash = clash || is && also && x != y
			if is {
				want = append(want, x)
			} else if also {
				want = append(want, y)
			}
		}
		got, e := sounding.Merge(a, b)
		if clash {
			same(t, e, api.ErrConflict, "Merge", a, b)
			want = nil
		} else {
			same(t, e, api.OK, "Merge", a, b)
		}
		sameList(t, got, want, "Merge", a, b)
	}
}

func TestP32Shift(t *testing.T) {
	l := example()
	wide := []api.Sounding{at(1, 5, 6, -highest, highest)}
	low, high := []api.Sounding{at(1, 0, 0, -highest, -highest)}, []api.Sounding{at(1, 0, 0, highest, highest)}
	for _, c := range []struct {
		l    []api.Sounding
		by   int
		want []api.Sounding
		e    api.Errno
	}{
		{l[:2], 7, []api.Sounding{at(1, 0, 0, -503, -493), at(2, 30, 40, -473, -463)}, api.OK},
		{[]api.Sounding{l[1], l[0]}, -7, []api.Sounding{at(2, 30, 40, -487, -477), at(1, 0, 0, -517, -507)}, api.OK},
		{l, 0, l, api.OK},
		{l[:1], -99490, []api.Sounding{at(1, 0, 0, -highest, -99990)}, api.OK},
		{l[:1], -99491, nil, api.ErrRange},
		{l[:1], 100500, []api.Sounding{at(1, 0, 0, 99990, highest)}, api.OK},
		{l[:1], 100501, nil, api.ErrRange},
		{l, -99100, []api.Sounding{at(1, 0, 0, -99610, -99600), at(2, 30, 40, -99580, -99570), at(3, 60, 80, -99560, -99550), at(4, 900, 0, -highest, -99990)}, api.OK},
		{l, -99101, nil, api.ErrRange}, // the last one would not be valid
		{l, 100451, nil, api.ErrRange}, // one in the middle
		{wide, 0, wide, api.OK},
		{wide, 1, nil, api.ErrRange},
		{wide, -1, nil, api.ErrRange},
		{low, 2 * highest, high, api.OK},
		{high, -2 * highest, low, api.OK},
		{low, 2*highest + 1, nil, api.ErrRange},
		{high, -2*highest - 1, nil, api.ErrRange},
		{low, math.MinInt, nil, api.ErrRange},
		{high, math.MaxInt, nil, api.ErrRange},
		{l, math.MaxInt, nil, api.ErrRange},
		{l, math.MinInt, nil, api.ErrRange},
		{nil, math.MaxInt, nil, api.OK}, // none would be
		{nil, math.MinInt, nil, api.OK},
	} {
		got, e := sounding.Shift(c.l, c.by)
		same(t, e, c.e, "Shift", c)
		sameList(t, got, c.want, "Shift", c)
	}
}
