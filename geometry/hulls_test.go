package geometry_test

import (
	"math"
	"slices"
	"testing"

	"draghead/api"
	"draghead/geometry"
)

func TestP15Hull(t *testing.T) {
	const m = api.MaxPlace
	for _, c := range []struct{ l, want []api.Point }{
		{nil, nil},
		{[]api.Point{}, nil},
		{points(3, 4), points(3, 4)},
		{points(3, 4, 3, 4, 3, 4), points(3, 4)},
		{points(3, 4, 1, 2), points(1, 2, 3, 4)},
		{points(2, 2, 1, 1, 3, 3, 1, 1), points(1, 1, 3, 3)},
		{points(5, 9, 5, 3, 5, 7), points(5, 3, 5, 9)},
		{points(5, 5, 9, 1, 7, 3), points(5, 5, 9, 1)},
		{points(0, 0, 2, 0, 4, 0, 4, 4, 1, 1), points(0, 0, 4, 0, 4, 4)},
		{points(0, 0, 0, 2, 2, 2, 2, 0, 1, 1, 0, 1, 1, 0, 2, 1, 1, 2), points(0, 0, 2, 0, 2, 2, 0, 2)},
		{points(4, 4, 4, 0, 0, 4, 0, 0, 4, 4), points(0, 0, 4, 0, 4, 4, 0, 4)},
		{points(m, m, -m, -m, m, -m, -m, m, 0, 0), points(-m, -m, m, -m, m, m, -m, m)},
		{points(-m, -m, m, m, m-1, m), points(-m, -m, m, m, m-1, m)},
	} {
		h, e := geometry.Hull(c.l)
		same(t, e, api.OK, "Hull", c.l)
		if !slices.Equal(h, c.want) {
			t.Errorf("Hull %v: %v instead of %v", c.l, h, c.want)
		}
	}
}

func TestP15Errors(t *testing.T) {
	long := make([]api.Point, api.MaxNodes+1)
	long[0] = far
	h, e := geometry.Hull(long)
	same(t, len(h), 0, "Hull of too many")
	same(t, e, api.ErrLarge, "Hull of too many")
	for _, p := range outside() {
		h, e := geometry.Hull([]api.Point{at(0, 0), at(4, 0), p})
		same(t, len(h), 0, "Hull", p)
		same(t, e, api.ErrRange, "Hull", p)
	}
	h, e = geometry.Hull(long[1:])
	same(t, len(h), 1, "Hull of as many as there may be")
	same(t, e, api.OK, "Hull of as many as there may be")
}

// isHull says what makes a list the hull of points that are not all on one line.
func isHull(h, l []api.Point) bool {
	for i, a := range h {
		b, c := h[(i+1)%len(h)], h[(i+2)%len(h)]
		if !slices.Contains(l, a) || geometry.Orient(a, b, c) != 1 {
			return false
		}
		if a.X < h[0].X || a.X == h[0].X && a.Y < h[0].Y {
			return false
		}
		for _, p := range l {
			if geometry.Orient(a, b, p) < 0 {
				return false
			}
		}
	}
	return len(h) > 2
}

func TestP15AndP18HullsOfRandomPoints(t *testing.T) {
	s := numbers{17}
	for _, most := range []int{2, 4, 50, api.MaxPlace} {
		for range 1000 {
			l := make([]api.Point, 1+s.next(api.MaxNodes))
			for i := range l {
				l[i] = s.point(most)
			}
			kept := slices.Clone(l)
			h, e := geometry.Hull(l)
			if e != api.OK || isHull(h, l) == onOneLine(l) || len(h) > 2 == onOneLine(l) {
				t.Fatalf("Hull %v: %v, %d", l, h, e)
			}
			if !slices.Equal(l, kept) {
				t.Fatalf("Hull writes into %v", kept)
			}
			if len(h) < 3 || len(h) > 40 {
				continue
			}
			for _, p := range l { // P1.8
				if n, e := geometry.Inside(h, p); n < 0 || e != api.OK {
					t.Fatalf("%v is outside of the hull %v: %d", p, h, e)
				}
			}
		}
	}
}

// The results of two calls and the argument share no memory.
func TestP15HullIsNewMemory(t *testing.T) {
	for _, l := range [][]api.Point{points(1, 1), points(1, 1, 2, 2), square()} {
		h, _ := geometry.Hull(l)
		for i := range h {
			h[i] = at(math.MaxInt, 9)
		}
		if geometry.Check(l) != api.OK {
			t.Errorf("Hull shares memory with %v", l)
		}
	}
}
