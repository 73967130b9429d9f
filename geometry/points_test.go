package geometry_test

import (
	"math"
	"testing"

	"draghead/api"
	"draghead/geometry"
)

func TestP11Check(t *testing.T) {
	const m = api.MaxPlace
	full := make([]api.Point, api.MaxNodes)
	long := make([]api.Point, api.MaxNodes+1)
	long[0] = far
	for _, c := range []struct {
		l    []api.Point
		want api.Errno
	}{
		{nil, api.OK},
		{[]api.Point{}, api.OK},
		{points(1, 2, 1, 2), api.OK},
		{points(m, m, -m, -m, m, -m), api.OK},
		{full, api.OK},
		{long, api.ErrLarge},
	} {
		same(t, geometry.Check(c.l), c.want, "Check", len(c.l))
	}
	for _, p := range outside() {
		same(t, geometry.Check([]api.Point{at(0, 0), p}), api.ErrRange, "Check", p)
	}
}

func TestP11Numbers(t *testing.T) {
	const m = api.MaxPlace
	for _, c := range []struct {
		a, b, c       api.Point
		cross, orient int
	}{
		{at(0, 0), at(4, 0), at(0, 3), 12, 1},
		{at(0, 0), at(0, 3), at(4, 0), -12, -1},
		{at(1, 1), at(5, 1), at(1, 4), 12, 1},
		{at(0, 0), at(2, 4), at(3, 6), 0, 0},
		{at(7, 7), at(7, 7), at(1, 2), 0, 0},
		{at(-m, -m), at(m, -m), at(m, m), 4 * m * m, 1},
		{at(-m, -m), at(m, m), at(m, -m), -4 * m * m, -1},
		{at(-m, m), at(m, -m), at(m, m), 4 * m * m, 1},
		{at(0, 0), at(m, m-1), at(m-1, m-2), -1, -1},
	} {
		same(t, geometry.Cross(c.a, c.b, c.c), c.cross, "Cross", c)
		same(t, geometry.Orient(c.a, c.b, c.c), c.orient, "Orient", c)
	}
	for _, c := range []struct {
		a, b         api.Point
		square, span int
	}{
		{at(0, 0), at(3, 4), 25, 5},
		{at(0, 0), at(1, 1), 2, 2},
		{at(5, -5), at(5, -5), 0, 0},
		{at(5, -5), at(5, -6), 1, 1},
		{at(1, 2), at(-2, -2), 25, 5},
		{at(0, 0), at(3, 5), 34, 6},
		{at(-m, -m), at(m, m), 8 * m * m, 2828428},
		{at(-m, 0), at(m, 0), 4 * m * m, 2 * m},
		{at(-m, 0), at(m, 1), 4*m*m + 1, 2*m + 1},
	} {
		same(t, geometry.Square(c.a, c.b), c.square, "Square", c)
		same(t, geometry.Span(c.a, c.b), c.span, "Span", c)
	}
}

func TestP11SpanIsLeast(t *testing.T) {
	s := numbers{11}
	for range 20000 {
		a, b := s.point(api.MaxPlace), s.point(api.MaxPlace)
		n, d := geometry.Span(a, b), geometry.Square(a, b)
		if n*n < d || n > 0 && (n-1)*(n-1) >= d {
			t.Fatalf("Span %v %v: %d, Square %d", a, b, n, d)
		}
	}
}

func TestP11OutOfRange(t *testing.T) {
	a, b := at(0, 0), at(0, 5)
	for _, p := range outside() {
		for _, l := range [][3]api.Point{{p, a, b}, {a, p, b}, {a, b, p}, {p, near, p}} {
			same(t, geometry.Cross(l[0], l[1], l[2]), 0, "Cross", l)
			same(t, geometry.Orient(l[0], l[1], l[2]), 0, "Orient", l)
		}
		for _, l := range [][2]api.Point{{p, a}, {a, p}, {p, near}} {
			same(t, geometry.Square(l[0], l[1]), 0, "Square", l)
			same(t, geometry.Span(l[0], l[1]), 0, "Span", l)
		}
	}
	same(t, geometry.Square(at(math.MinInt, 0), at(math.MinInt, 1)), 0, "Square")
}

// P1.8: the triangles of d with the sides of a, b, c add up to a, b, c.
func TestP18CrossesAddUp(t *testing.T) {
	s := numbers{18}
	for range 5000 {
		a, b, c, d := s.point(api.MaxPlace), s.point(api.MaxPlace), s.point(api.MaxPlace), s.point(api.MaxPlace)
		sum := geometry.Cross(a, b, d) + geometry.Cross(b, c, d) + geometry.Cross(c, a, d)
		same(t, sum, geometry.Cross(a, b, c), "Cross", a, b, c, d)
	}
}
