package sounding_test

import (
	"math"
	"slices"
	"testing"

	"draghead/api"
	"draghead/sounding"
)

// thinned is a thinning with these kept soundings, and pairs of a number and its guard.
func thinned(kept []int, pairs ...int) api.Thinned {
	out := api.Thinned{Kept: kept}
	for i := 0; i+1 < len(pairs); i += 2 {
		out.Guards = append(out.Guards, [2]int{pairs[i], pairs[i+1]})
	}
	return out
}

func TestP35Thin(t *testing.T) {
	l := example()
	mixed := []api.Sounding{l[3], l[1], l[0], l[2]}
	row := []api.Sounding{at(1, 0, 0, -9, 0), at(2, 3, 0, -9, 0), at(3, 6, 0, -9, 0), at(4, 9, 0, -9, 0)}
	// 2 is between both kept ones; the guard is the first one in the order of keeping, which is not the nearest one.
	between := []api.Sounding{at(1, 8, 0, 0, 5), at(2, 5, 0, 0, 4), at(3, 0, 0, 0, 6)}
	alike := []api.Sounding{at(5, 0, 0, 0, 0), at(4, 0, 0, 0, 0), at(6, 0, 0, 0, 0)}
	byLo := []api.Sounding{at(1, 0, 0, -2, 1), at(2, 1, 0, -9, 2)}
	for _, c := range []struct {
		l      []api.Sounding
		radius int
		want   api.Thinned
	}{
		{l, 50, thinned([]int{1, 3, 4}, 2, 3)},
		{l, 49, thinned([]int{1, 2, 3, 4})},
		{l, 840, thinned([]int{3, 4}, 1, 3, 2, 3)},
		{l, 900, thinned([]int{3}, 1, 3, 2, 3, 4, 3)},
		{l, 2000000, thinned([]int{3}, 1, 3, 2, 3, 4, 3)},
		{mixed, 50, thinned([]int{1, 3, 4}, 2, 3)},
		{mixed, 840, thinned([]int{3, 4}, 1, 3, 2, 3)},
		{nil, 0, api.Thinned{}},
		{nil, 2000000, api.Thinned{}},
		{row, 3, thinned([]int{1, 3}, 2, 1, 4, 3)}, // X decides
		{row, 6, thinned([]int{1, 4}, 2, 1, 3, 1)},
		{row, 2, thinned([]int{1, 2, 3, 4})},
		{between, 6, thinned([]int{1, 3}, 2, 3)},
		{between, 4, thinned([]int{1, 3}, 2, 1)},
		{between, 2, thinned([]int{1, 2, 3})},
		{between, 8, thinned([]int{3}, 1, 3, 2, 3)},
		{alike, 0, thinned([]int{4}, 5, 4, 6, 4)}, // the number decides
		{byLo, 1, thinned([]int{2}, 1, 2)},        // Hi, and not Lo
		{byLo, 0, thinned([]int{1, 2})},
		{[]api.Sounding{at(1, 1, 0, 0, 0), at(2, 0, 9, 0, 0)}, 10, thinned([]int{2}, 1, 2)},                     // X is before Y and the number
		{[]api.Sounding{at(1, 0, 1, 0, 0), at(2, 0, -9, 0, 0)}, 10, thinned([]int{2}, 1, 2)},                    // Y before the number
		{[]api.Sounding{at(1, 0, 0, 0, 0), at(2, 9, 9, 0, 1)}, 13, thinned([]int{2}, 1, 2)},                     // Hi before all
		{[]api.Sounding{at(1, 0, 0, 0, 0), at(2, 9, 9, 0, 1)}, 12, thinned([]int{1, 2})},                        // the squared distance is 162
		{[]api.Sounding{at(1, -farthest, 0, 0, 1), at(2, farthest, 0, 0, 0)}, 2000000, thinned([]int{1}, 2, 1)}, // the greatest radius
		{[]api.Sounding{at(1, -farthest, 0, 0, 1), at(2, farthest, 1, 0, 0)}, 2000000, thinned([]int{1, 2})},
		{extremes(), 2000000, thinned([]int{1, api.MaxNumber}, 2, 1, 3, 1)},
	} {
		got, e := sounding.Thin(c.l, c.radius)
		same(t, e, api.OK, "Thin", c)
		sameThinned(t, got, c.want, "Thin", c)
	}
}

func TestP35Errors(t *testing.T) {
	for _, radius := range []int{-1, 2000001, math.MaxInt, math.MinInt, 1 << 32} {
		for _, l := range [][]api.Sounding{nil, example()} {
			same(t, ofThinned(sounding.Thin(l, radius)), refused(api.ErrRange), "Thin", l, radius)
			same(t, sounding.CheckThin(l, radius, api.Thinned{}), api.ErrRange, "CheckThin", l, radius)
			same(t, sounding.CheckThin(l, radius, thinned([]int{1, 2, 3, 4})), api.ErrRange, "CheckThin", l, radius)
		}
		for want, l := range faulty() {
			same(t, ofThinned(sounding.Thin(l, radius)), refused(want), "Thin", l, radius)
			same(t, sounding.CheckThin(l, radius, api.Thinned{}), want, "CheckThin", l, radius)
		}
	}
}

func TestP35CheckThin(t *testing.T) {
	l := example()
	row := []api.Sounding{at(1, 0, 0, -9, 0), at(2, 3, 0, -9, 0), at(3, 6, 0, -9, 0)}
	twins := []api.Sounding{at(1, 0, 0, 0, 0), at(2, 0, 0, -5, 0)}
	for _, c := range []struct {
		l      []api.Sounding
		radius int
		t      api.Thinned
		right  bool
	}{
		{l, 50, thinned([]int{1, 3, 4}, 2, 3), true},
		{l, 49, thinned([]int{1, 2, 3, 4}), true},
		{nil, 0, api.Thinned{}, true},
		{nil, 50, api.Thinned{Kept: []int{}, Guards: [][2]int{}}, true},
		// Those that Thin does not return are right, too.
		{row, 3, thinned([]int{1, 3}, 2, 1), true},
		{row, 3, thinned([]int{1, 3}, 2, 3), true},
		{row, 3, thinned([]int{2}, 1, 2, 3, 2), true},
		{twins, 0, thinned([]int{1}, 2, 1), true},
		{twins, 0, thinned([]int{2}, 1, 2), true},
		{l[:2], 50, thinned([]int{2}, 1, 2), true},
		// Each number in exactly one of both, and no others.
		{l, 50, api.Thinned{}, false},
		{l, 50, thinned([]int{1, 3, 4}), false},
		{l, 50, thinned([]int{1, 3}, 2, 3), false},
		{l, 49, thinned([]int{1, 2, 3}), false},
		{l, 49, thinned([]int{1, 2, 3, 4, 5}), false},
		{l, 49, thinned([]int{0, 1, 2, 3, 4}), false},
		{l, 49, thinned([]int{1, 2, 3, 5}), false},
		{l, 50, thinned([]int{1, 3, 4}, 2, 3, 5, 3), false},
		{l, 50, thinned([]int{1, 3, 4}, 5, 3), false},
		{l, 50, thinned([]int{1, 3, 4}, 2, 3, 3, 3), false},
		{l, 50, thinned([]int{1, 3, 4}, 1, 1, 2, 3), false},
		{l, 50, thinned([]int{1, 3, 4}, 3, 3), false},
		{nil, 0, thinned([]int{1}), false},
		{nil, 0, thinned(nil, 1, 1), false},
		{row, 3, thinned([]int{2}, 1, 2, 2, 2), false},
		{row, 6, thinned([]int{2}, 1, 2, 2, 2), false},
		{row, 3, thinned([]int{2}, 1, 2, 2, 2, 3, 2), false}, // 2 is kept and guarded
		{row, 6, thinned([]int{1}, 1, 1, 2, 1), false},       // 3 is missing
		{row, 6, thinned([]int{2}, 1, 2, 4, 2), false},       // and here
		// Ascending, and so none twice.
		{l, 50, thinned([]int{3, 1, 4}, 2, 3), false},
		{l, 50, thinned([]int{4, 3, 1}, 2, 3), false},
		{l, 50, thinned([]int{1, 1, 3, 4}, 2, 3), false},
		{l, 49, thinned([]int{1, 1, 3, 4}), false},
		{row, 3, thinned([]int{2}, 3, 2, 1, 2), false},
		{row, 3, thinned([]int{2}, 1, 2, 1, 2), false},
		{row, 3, thinned([]int{2}, 1, 2, 1, 2, 3, 2), false},
		// Each guard is a kept one, within the radius, and at least as high.
		{row, 3, thinned([]int{1, 3}, 2, 4), false},
		{row, 3, thinned([]int{1, 3}, 2, 2), false},
		{row, 3, thinned([]int{1, 3}, 2, 0), false},
		{row, 6, thinned([]int{1}, 2, 1, 3, 2), false}, // 2 is not kept
		{l, 50, thinned([]int{1, 3, 4}, 2, 4), false},
		{l, 100, thinned([]int{3, 4}, 1, 4, 2, 3), false},
		{l, 99, thinned([]int{3, 4}, 1, 3, 2, 3), false}, // the distance of 1 and 3 is 100
		{l, 100, thinned([]int{3, 4}, 1, 3, 2, 3), true},
		{l, 50, thinned([]int{1, 3, 4}, 2, 1), false},                                             // 1 is lower than 2
		{l[:3], 50, thinned([]int{2}, 1, 2, 3, 2), false},                                         // 2 is lower than 3
		{[]api.Sounding{at(1, 0, 0, 5, 6), at(2, 0, 0, 0, 7)}, 0, thinned([]int{1}, 2, 1), false}, // Hi counts
		{[]api.Sounding{at(1, 0, 0, 5, 6), at(2, 0, 0, 0, 7)}, 0, thinned([]int{2}, 1, 2), true},  // and not Lo
		// No two kept ones within the radius.
		{l, 50, thinned([]int{1, 2, 3, 4}), false},
		{l, 100, thinned([]int{1, 3, 4}, 2, 3), false},
		{l, 99, thinned([]int{1, 3, 4}, 2, 3), true},
		{twins, 0, thinned([]int{1, 2}), false},
		{row, 6, thinned([]int{1, 3}, 2, 1), false},
		{row, 5, thinned([]int{1, 3}, 2, 1), true},
		// The limits of int.
		{row, 3, thinned([]int{math.MinInt, 1, 3}, 2, 1), false},
		{row, 3, thinned([]int{1, 3}, math.MaxInt, 1), false},
		{row, 3, thinned([]int{1, 3}, 2, math.MinInt), false},
	} {
		want := api.ErrProof
		if c.right {
			want = api.OK
		}
		same(t, sounding.CheckThin(c.l, c.radius, c.t), want, "CheckThin", c)
	}
	long := make([]int, 100000)
	same(t, sounding.CheckThin(l, 50, api.Thinned{Kept: long}), api.ErrProof, "CheckThin of many")
	same(t, sounding.CheckThin(line(500), 999, api.Thinned{Kept: upTo(500)}), api.OK, "CheckThin of 500")
	same(t, sounding.CheckThin(line(500), 1000, api.Thinned{Kept: upTo(500)}), api.ErrProof, "CheckThin of 500")
}

// isRight reads the definition of a right thinning clause by clause.
func isRight(l []api.Sounding, radius int, t api.Thinned) bool {
	var firsts []int
	for _, g := range t.Guards {
		firsts = append(firsts, g[0])
	}
	right := slices.IsSorted(t.Kept) && slices.IsSorted(firsts)
	there := slices.Concat(t.Kept, firsts)
	slices.Sort(there)
	var all []int
	for _, s := range ascending(l) {
		all = append(all, s.Number)
	}
	right = right && slices.Equal(there, all)
	for _, g := range t.Guards {
		s, is := find(l, g[0])
		k, also := find(l, g[1])
		right = right && is && also && slices.Contains(t.Kept, g[1]) && apart(s, k) <= radius*radius && k.Hi >= s.Hi
	}
	for i, a := range t.Kept {
		for _, b := range t.Kept[:i] {
			s, is := find(l, a)
			k, also := find(l, b)
			right = right && is && also && apart(s, k) > radius*radius
		}
	}
	return right
}

// change is a thinning with something else in it, which often is no right one any more.
func (s *numbers) change(t api.Thinned, most int) api.Thinned {
	out := api.Thinned{Kept: slices.Clone(t.Kept), Guards: slices.Clone(t.Guards)}
	k, g := len(out.Kept), len(out.Guards)
	switch s.next(8) {
	case 0:
		if k > 0 {
			out.Kept[s.next(k)] = 1 + s.next(most)
		}
	case 1:
		if g > 0 {
			out.Guards[s.next(g)][1] = 1 + s.next(most)
		}
	case 2:
		if g > 0 {
			out.Guards[s.next(g)][0] = 1 + s.next(most)
		}
	case 3: // a kept one is guarded by another
		if k > 1 {
			i := s.next(k)
			number := out.Kept[i]
			out.Kept = slices.Delete(out.Kept, i, i+1)
			out.Guards = append(out.Guards, [2]int{number, out.Kept[s.next(k-1)]})
			slices.SortFunc(out.Guards, func(a, b [2]int) int { return a[0] - b[0] })
		}
	case 4: // a guard and what it guards change places
		if g > 0 {
			i := s.next(g)
			pair := out.Guards[i]
			out.Kept[slices.Index(out.Kept, pair[1])] = pair[0]
			out.Guards[i] = [2]int{pair[1], pair[0]}
			slices.Sort(out.Kept)
			slices.SortFunc(out.Guards, func(a, b [2]int) int { return a[0] - b[0] })
		}
	case 5:
		if g > 0 {
			i := s.next(g)
			out.Kept = append(out.Kept, out.Guards[i][0])
			out.Guards = slices.Delete(out.Guards, i, i+1)
			slices.Sort(out.Kept)
		}
	case 6:
		if k > 1 {
			i := s.next(k - 1)
			out.Kept[i], out.Kept[i+1] = out.Kept[i+1], out.Kept[i]
		}
	}
	return out
}

func TestP35CheckThinComputed(t *testing.T) {
	s := &numbers{36}
	right, wrong := 0, 0
	for range 6000 {
		l, radius := s.sheet(6, 3), s.next(4)
		thin, _ := sounding.Thin(l, radius)
		x := s.change(thin, 20)
		want := api.ErrProof
		if isRight(l, radius, x) {
			want = api.OK
			right++
		} else {
			wrong++
		}
		same(t, sounding.CheckThin(l, radius, x), want, "CheckThin", l, radius, x)
	}
	same(t, right > 500 && wrong > 500, true, "right and wrong ones", right, wrong)
}

// goesBefore is the order in which thinning goes through a sheet.
func goesBefore(a, b api.Sounding) bool {
	switch {
	case a.Hi != b.Hi:
		return a.Hi > b.Hi
	case a.X != b.X:
		return a.X < b.X
	case a.Y != b.Y:
		return a.Y < b.Y
	}
	return a.Number < b.Number
}

// thinOf keeps the first one of those that are left, and lets it guard all that are left within the radius, until none are left.
func thinOf(l []api.Sounding, radius int) api.Thinned {
	left := ascending(l)
	guards := map[int]int{}
	var out api.Thinned
	for len(left) > 0 {
		first := left[0]
		for _, s := range left {
			if goesBefore(s, first) {
				first = s
			}
		}
		out.Kept = append(out.Kept, first.Number)
		var others []api.Sounding
		for _, s := range left {
			if apart(s, first) > radius*radius {
				others = append(others, s)
			} else if s != first {
				guards[s.Number] = first.Number
			}
		}
		left = others
	}
	slices.Sort(out.Kept)
	for _, s := range ascending(l) {
		if guard, is := guards[s.Number]; is {
			out.Guards = append(out.Guards, [2]int{s.Number, guard})
		}
	}
	return out
}

func TestP35ThinComputed(t *testing.T) {
	s := &numbers{37}
	for range 2000 {
		l, radius := s.sheet(15, 5), s.next(6)
		got, e := sounding.Thin(l, radius)
		same(t, e, api.OK, "Thin", l, radius)
		sameThinned(t, got, thinOf(l, radius), "Thin", l, radius)
	}
	l := line(500)
	got, e := sounding.Thin(l, 2000)
	same(t, e, api.OK, "Thin of 500")
	sameThinned(t, got, thinOf(l, 2000), "Thin of 500")
}

func TestP35Keep(t *testing.T) {
	l := example()
	mixed := []api.Sounding{l[3], l[1], l[0], l[2]}
	for _, c := range []struct {
		l    []api.Sounding
		t    api.Thinned
		want []api.Sounding
		e    api.Errno
	}{
		{l, thinned([]int{1, 3, 4}, 2, 3), []api.Sounding{l[0], l[2], l[3]}, api.OK},
		{l, thinned([]int{4, 1}), []api.Sounding{l[0], l[3]}, api.OK}, // in the order of l
		{mixed, thinned([]int{1, 4}), []api.Sounding{l[3], l[0]}, api.OK},
		{mixed, thinned([]int{4, 3, 2, 1}), mixed, api.OK},
		{l, api.Thinned{}, nil, api.OK},
		{nil, api.Thinned{}, nil, api.OK},
		{l, thinned([]int{2}, 9, 9, 9, 9, -1, 2), l[1:2], api.OK}, // Guards are not looked at
		{l, thinned(nil, 1, 2), nil, api.OK},
		{l, thinned([]int{5}), nil, api.ErrMissing},
		{l, thinned([]int{0}), nil, api.ErrMissing},
		{l, thinned([]int{1, math.MaxInt}), nil, api.ErrMissing},
		{nil, thinned([]int{1}), nil, api.ErrMissing},
		{l, thinned([]int{1, 1}), nil, api.ErrExists},
		{l, thinned([]int{1, 2, 1}), nil, api.ErrExists},
		{l, thinned([]int{5, 5}), nil, api.ErrMissing},
		{l, thinned([]int{1, 1, 5}), nil, api.ErrExists}, // number by number
		{l, thinned([]int{1, 5, 1}), nil, api.ErrMissing},
	} {
		got, e := sounding.Keep(c.l, c.t)
		same(t, e, c.e, "Keep", c)
		sameList(t, got, c.want, "Keep", c)
	}
}
