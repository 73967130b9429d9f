package sounding_test

import (
	"math"
	"testing"

	"draghead/api"
	"draghead/sounding"
)

func crossed(a, b, square int, agree bool) api.Crossing {
	return api.Crossing{A: a, B: b, Square: square, Agree: agree}
}

func TestP34Cross(t *testing.T) {
	l := example()
	twins := []api.Sounding{at(9, 3, 4, 0, 0), at(8, -5, 0, 5, 5), at(7, 0, 6, 0, 0)}
	origin := []api.Sounding{at(1, 0, 0, 0, 5)}
	corner, opposite := []api.Sounding{at(1, -farthest, -farthest, 0, 0)}, []api.Sounding{at(2, farthest, -farthest, 0, 0)}
	for _, c := range []struct {
		a, b   []api.Sounding
		radius int
		want   []api.Crossing
	}{
		{l[:1], l[1:], 50, []api.Crossing{crossed(1, 2, 2500, false)}},
		{l[:1], l[1:], 49, nil},
		{l[1:3], l[:2], 49, []api.Crossing{crossed(2, 2, 0, true)}},
		{l[1:3], l[:2], 50, []api.Crossing{crossed(2, 2, 0, true), crossed(3, 2, 2500, false)}},
		{l, l, 0, []api.Crossing{crossed(1, 1, 0, true), crossed(2, 2, 0, true), crossed(3, 3, 0, true), crossed(4, 4, 0, true)}},
		{[]api.Sounding{l[3], l[0]}, l[1:2], 2000000, []api.Crossing{crossed(4, 2, 870*870+1600, false), crossed(1, 2, 2500, false)}},
		{l, nil, 2000000, nil},
		{nil, l, 2000000, nil},
		{nil, nil, 0, nil},
		{origin, twins, 5, []api.Crossing{crossed(1, 8, 25, true)}}, // of two that are as far the one with the smaller number
		{origin, twins[:1], 5, []api.Crossing{crossed(1, 9, 25, true)}},
		{origin, twins[2:], 5, nil},
		{origin, twins[2:], 6, []api.Crossing{crossed(1, 7, 36, true)}},
		{corner, opposite, 2000000, []api.Crossing{crossed(1, 2, 4000000000000, true)}},
		{corner, opposite, 1999999, nil},
		{corner, []api.Sounding{at(2, farthest, 1-farthest, 0, 0)}, 2000000, nil},
	} {
		got, e := sounding.Cross(c.a, c.b, c.radius)
		same(t, e, api.OK, "Cross", c)
		sameList(t, got, c.want, "Cross", c)
	}
}

func TestP34Agree(t *testing.T) {
	for _, c := range []struct {
		lo, hi int
		want   bool
	}{
		{-10, -5, true}, {-10, -10, true}, {-5, -5, true}, {-8, -7, true}, {-20, 0, true}, {-20, -10, true}, {-5, 0, true}, {-20, -11, false}, {-4, 0, false}, {-4, -4, false}, {-11, -11, false},
	} {
		a, b := []api.Sounding{at(1, 0, 0, -10, -5)}, []api.Sounding{at(2, 0, 0, c.lo, c.hi)}
		for _, l := range [][2][]api.Sounding{{a, b}, {b, a}} {
			got, e := sounding.Cross(l[0], l[1], 0)
			same(t, e, api.OK, "Cross", l)
			sameList(t, got, []api.Crossing{crossed(l[0][0].Number, l[1][0].Number, 0, c.want)}, "Cross", l)
		}
	}
}

func TestP34Errors(t *testing.T) {
	for _, radius := range []int{-1, 2000001, math.MaxInt, math.MinInt, 1 << 32} {
		same(t, listed(sounding.Cross(example(), example(), radius)), refused(api.ErrRange), "Cross", radius)
		same(t, listed(sounding.Cross(nil, nil, radius)), refused(api.ErrRange), "Cross", radius)
		for want, l := range faulty() {
			same(t, listed(sounding.Cross(l, example(), radius)), refused(want), "Cross", l)
			same(t, listed(sounding.Cross(example(), l, radius)), refused(want), "Cross", l)
		}
	}
}

func TestP34Computed(t *testing.T) {
	s := &numbers{35}
	for range 500 {
		a, b, radius := s.sheet(8, 6), s.sheet(8, 6), s.next(8)
		var want []api.Crossing
		for _, x := range a {
			for _, y := range b {
				if rank(b, y, api.Point{X: x.X, Y: x.Y}) > 0 || apart(x, y) > radius*radius {
					continue
				}
				common := false
				for level := x.Lo; level <= x.Hi; level++ {
					common = common || y.Lo <= level && level <= y.Hi
				}
				want = append(want, crossed(x.Number, y.Number, apart(x, y), common))
			}
		}
		got, e := sounding.Cross(a, b, radius)
		same(t, e, api.OK, "Cross", a, b, radius)
		sameList(t, got, want, "Cross", a, b, radius)
	}
}
