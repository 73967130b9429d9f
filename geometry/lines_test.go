package geometry_test

import (
	"testing"

	"draghead/api"
	"draghead/geometry"
)

func TestP12OffsetAndAlong(t *testing.T) {
	const m = api.MaxPlace
	for _, c := range []struct {
		a, b, p       api.Point
		offset, along int
	}{
		{at(0, 0), at(3, 4), at(5, 0), 4, 3},
		{at(0, 0), at(1, 1), at(-1, 0), 0, -1},
		{at(0, 0), at(10, 0), at(-7, 3), 3, -7},
		{at(0, 0), at(10, 0), at(4, -3), 3, 4},
		{at(0, 0), at(-10, 0), at(4, 3), 3, -4},
		{at(2, 1), at(5, 5), at(2, 1), 0, 0},
		{at(2, 1), at(5, 5), at(5, 5), 0, 5},
		{at(0, 0), at(2, 1), at(-3, 0), 1, -2},  // 3 / 3; -6 / 3 exactly
		{at(0, 0), at(2, 1), at(-3, -1), 0, -3}, // 1 / 3; -7 / 3
		{at(0, 0), at(2, 1), at(3, 1), 0, 2},    // -1 / 3; 7 / 3
		{at(0, 0), at(2, 1), at(-1, 3), 2, 0},   // 7 / 3; 1 / 3
		{at(-m, -m), at(m, m), at(-m, m), 4 * m * m / 2828428, 4 * m * m / 2828428},
		{at(m, m), at(m-1, m), at(-m, -m), 2 * m, 2 * m},
	} {
		n, e := geometry.Offset(c.a, c.b, c.p)
		same(t, n, c.offset, "Offset", c)
		same(t, e, api.OK, "Offset", c)
		n, e = geometry.Along(c.a, c.b, c.p)
		same(t, n, c.along, "Along", c)
		same(t, e, api.OK, "Along", c)
	}
}

func TestP12Errors(t *testing.T) {
	a, b := at(0, 0), at(3, 4)
	check := func(a, b, p api.Point, want api.Errno) {
		t.Helper()
		n, e := geometry.Offset(a, b, p)
		same(t, n, 0, "Offset", a, b, p)
		same(t, e, want, "Offset", a, b, p)
		n, e = geometry.Along(a, b, p)
		same(t, n, 0, "Along", a, b, p)
		same(t, e, want, "Along", a, b, p)
	}
	check(a, a, b, api.ErrNone)
	check(b, b, b, api.ErrNone)
	for _, p := range outside() {
		check(p, a, b, api.ErrRange)
		check(a, p, b, api.ErrRange)
		check(a, b, p, api.ErrRange)
		check(p, p, b, api.ErrRange)
		check(a, a, p, api.ErrRange)
	}
}

func TestP12SegmentsOutOfRange(t *testing.T) {
	for _, p := range outside() {
		same(t, geometry.Between(p, p, p), false, "Between", p)
		same(t, geometry.Between(at(0, 0), p, at(0, 0)), false, "Between", p)
		same(t, geometry.Between(p, at(0, 0), at(0, 0)), false, "Between", p)
		same(t, geometry.Meet(p, p, p, p), false, "Meet", p)
		for i := range 4 {
			l := make([]api.Point, 4)
			l[i] = p
			same(t, geometry.Meet(l[0], l[1], l[2], l[3]), false, "Meet", l)
		}
	}
}

func TestP12Segments(t *testing.T) {
	const m = api.MaxPlace
	for _, c := range []struct {
		l    []api.Point
		want bool
	}{
		{points(0, 0, 4, 4, 1, 2), false},
		{points(0, 0, 4, 4, 3, 3), true},
		{points(0, 0, 4, 4, 5, 5), false},
		{points(0, 0, 4, 4, -1, -1), false},
		{points(-m, -m, m, m, m-1, m-1), true},
		{points(-m, -m, m, m, m-1, m-2), false},
	} {
		same(t, geometry.Between(c.l[0], c.l[1], c.l[2]), c.want, "Between", c.l)
	}
	for _, c := range []struct {
		l    []api.Point
		want bool
	}{
		{points(0, 0, 4, 0, 2, 0, 2, 5), true},
		{points(-m, -m, m, m, -m, m, m, -m), true},
		{points(-m, -m, m, m, -m, 1-m, m-1, m), false},
		{points(-m, -m, m, m-1, 0, 0, m, m), false},
		{points(0, 0, m, m, m, m, m, -m), true},
	} {
		same(t, geometry.Meet(c.l[0], c.l[1], c.l[2], c.l[3]), c.want, "Meet", c.l)
	}
}

// grid is the places with coordinates from 0 to below n.
func grid(n int) []api.Point {
	var out []api.Point
	for i := range n * n {
		out = append(out, at(i%n, i/n))
	}
	return out
}

func gcd(a, b int) int {
	for b != 0 {
		a, b = b, a%b
	}
	return max(a, -a)
}

// onSegment walks over the whole numbered places of a segment.
func onSegment(a, b, p api.Point) bool {
	steps := max(1, gcd(b.X-a.X, b.Y-a.Y))
	for k := range steps + 1 {
		if p == at(a.X+(b.X-a.X)/steps*k, a.Y+(b.Y-a.Y)/steps*k) {
			return true
		}
	}
	return false
}

// solved solves a + s (b - a) = c + r (d - c) for s and r from 0 to 1.
func solved(a, b, c, d api.Point) bool {
	u, v, w := at(b.X-a.X, b.Y-a.Y), at(d.X-c.X, d.Y-c.Y), at(c.X-a.X, c.Y-a.Y)
	den := u.X*v.Y - u.Y*v.X
	if den == 0 { // parallel: if they meet, an end of one is on the other
		return onSegment(a, b, c) || onSegment(a, b, d) || onSegment(c, d, a) || onSegment(c, d, b)
	}
	s, r := w.X*v.Y-w.Y*v.X, w.X*u.Y-w.Y*u.X
	if den < 0 {
		den, s, r = -den, -s, -r
	}
	return 0 <= s && s <= den && 0 <= r && r <= den
}

func TestP12SegmentsOfAGrid(t *testing.T) {
	l := grid(5)
	for _, a := range l {
		for _, b := range l {
			for _, p := range l {
				same(t, geometry.Between(a, b, p), onSegment(a, b, p), "Between", a, b, p)
			}
		}
	}
	l = grid(4)
	for _, a := range l {
		for _, b := range l {
			for _, c := range l {
				for _, d := range l {
					same(t, geometry.Meet(a, b, c, d), solved(a, b, c, d), "Meet", a, b, c, d)
				}
			}
		}
	}
}
