package geometry_test

import (
	"math"
	"slices"
	"testing"

	"draghead/api"
	"draghead/geometry"
)

func TestP14CheckPolygon(t *testing.T) {
	const m = api.MaxPlace
	long := ring(41)
	long[7] = far
	for _, c := range []struct {
		l    []api.Point
		want api.Errno
	}{
		{nil, api.ErrShape},
		{[]api.Point{}, api.ErrShape},
		{points(0, 0, 1, 1), api.ErrShape},
		{[]api.Point{far, far}, api.ErrShape},
		{long, api.ErrLarge},
		{ring(41), api.ErrLarge},
		{ring(40), api.OK},
		{square(), api.OK},
		{bay(), api.OK},
		{points(0, 4, 4, 4, 4, 0, 0, 0), api.OK},
		{points(0, 0, 4, 0, 0, 4), api.OK},
		{points(0, 0, 0, 4, 4, 0), api.OK},
		{points(0, 0, 2, 0, 4, 0, 4, 4), api.OK},
		{points(2, 0, 4, 0, 4, 4, 0, 0), api.OK},
		{points(-m, -m, m, -m, m, m, -m, m), api.OK},
		{points(0, 0, 4, 4, 4, 0, 0, 4), api.ErrForm},             // crosses itself
		{points(0, 0, 4, 0, 2, 0), api.ErrForm},                   // all on one line
		{points(0, 0, 2, 0, 4, 0), api.ErrForm},                   // the last edge covers the others
		{points(0, 0, 4, 0, 4, 4, 4, 0), api.ErrForm},             // two corners equal, and back
		{points(0, 0, 0, 0, 4, 0, 4, 4), api.ErrForm},             // two equal corners that follow each other
		{points(0, 0, 4, 0, 4, 4, 0, 0), api.ErrForm},             // the last corner is the first one
		{points(1, 1, 1, 1, 1, 1), api.ErrForm},                   // all equal
		{points(0, 0, 4, 0, 4, 4, 2, 0), api.ErrForm},             // a corner on another edge
		{points(0, 0, 4, 0, 4, 4, 2, 2, 2, -2), api.ErrForm},      // an edge across another one
		{points(0, 0, 4, 0, 8, 4, 8, 0, 4, 0, 0, 4), api.ErrForm}, // touches itself at a corner
		{points(0, 0, 4, 0, 4, 4, 4, 2), api.ErrForm},             // folds back at (4, 4)
		{points(2, 0, 4, 0, 4, 4, 0, 0, 3, 0), api.ErrForm},       // the last edge lies on the first one
		{points(4, 2, 0, 0, 4, 0, 4, 4), api.ErrForm},             // folds back between the last and the first edge
		{points(0, 0, 4, 0, 4, 4, 3, 0, 1, 0, 0, 4), api.ErrForm}, // an edge lies on another one
	} {
		same(t, geometry.CheckPolygon(c.l), c.want, "CheckPolygon", c.l)
	}
	for _, p := range outside() {
		l := square()
		l[3] = p
		same(t, geometry.CheckPolygon(l), api.ErrRange, "CheckPolygon", l)
		same(t, geometry.CheckPolygon([]api.Point{p, p, p}), api.ErrRange, "CheckPolygon", p)
	}
}

// isPolygon is the definition of the chapter for corners in range.
func isPolygon(l []api.Point) bool {
	n := len(l)
	for i := range n {
		a, b := l[i], l[(i+1)%n]
		if slices.Contains(l[:i], a) {
			return false
		}
		for j := range n {
			c, d := l[j], l[(j+1)%n]
			switch {
			case i == j || j == (i+n-1)%n:
			case j == (i+1)%n:
				dot := (a.X-b.X)*(d.X-b.X) + (a.Y-b.Y)*(d.Y-b.Y)
				if geometry.Orient(a, b, d) == 0 && dot > 0 {
					return false
				}
			case solved(a, b, c, d):
				return false
			}
		}
	}
	return true
}

// polygons is all lists of n corners of a grid, and whether they are polygons.
func polygons(n int, l []api.Point, give func(corners []api.Point, is bool)) {
	count := 1
	for range n {
		count *= len(l)
	}
	for k := range count {
		corners := make([]api.Point, n)
		for i := range n {
			corners[i] = l[k%len(l)]
			k /= len(l)
		}
		give(corners, isPolygon(corners))
	}
}

func TestP14PolygonsOfAGrid(t *testing.T) {
	for n := 3; n <= 5; n++ {
		polygons(n, grid(3), func(l []api.Point, is bool) {
			want := api.ErrForm
			if is {
				want = api.OK
			}
			same(t, geometry.CheckPolygon(l), want, "CheckPolygon", l)
		})
	}
}

func TestP14Area(t *testing.T) {
	const m = api.MaxPlace
	for _, c := range []struct {
		l    []api.Point
		want int
	}{
		{square(), 32},
		{points(0, 4, 4, 4, 4, 0, 0, 0), 32},
		{bay(), 2 * (81 - 18)},
		{points(0, 0, 2, 0, 4, 0, 4, 4), 16},
		{points(7, 7, 8, 7, 7, 8), 1},
		{points(-m, -m, m, -m, m, m, -m, m), 8 * m * m},
		{points(m, m, m-1, m, m, m-1), 1},
	} {
		n, e := geometry.Area(c.l)
		same(t, n, c.want, "Area", c.l)
		same(t, e, api.OK, "Area", c.l)
	}
}

// P1.8: the area depends neither on the first corner nor on the direction.
func TestP18AreaTurned(t *testing.T) {
	s := numbers{14}
	for range 2000 {
		l := s.distinct(6, 20)
		want, e := geometry.Area(l)
		if e != api.OK {
			continue
		}
		for i := range l {
			turned := append(slices.Clone(l[i:]), l[:i]...)
			n, e := geometry.Area(turned)
			same(t, n, want, "Area", turned)
			same(t, e, api.OK, "Area", turned)
			slices.Reverse(turned)
			n, _ = geometry.Area(turned)
			same(t, n, want, "Area", turned)
		}
	}
}

func TestP14Inside(t *testing.T) {
	for _, c := range []struct{ x, y, want int }{
		{1, 1, 1}, {1, 8, 1}, {8, 8, 1}, {4, 1, 1}, {4, 2, 1},
		{4, 4, -1}, {4, 9, -1}, {10, 3, -1}, {-1, 0, -1}, {-1, 3, -1}, {-1, 9, -1}, {10, 0, -1}, {4, 10, -1},
		{0, 0, 0}, {9, 9, 0}, {4, 3, 0}, {3, 3, 0}, {6, 3, 0}, {3, 5, 0}, {6, 9, 0}, {0, 5, 0}, {1, 9, 0}, {5, 0, 0},
		{-api.MaxPlace, 3, -1}, {api.MaxPlace, 3, -1},
	} {
		l := bay()
		for range 2 {
			n, e := geometry.Inside(l, at(c.x, c.y))
			same(t, n, c.want, "Inside", c, l)
			same(t, e, api.OK, "Inside", c, l)
			slices.Reverse(l)
		}
	}
}

// byRay counts the edges on a way to the outside that meets no corner, and says which side of the border p is on.
func byRay(l []api.Point, p api.Point) int {
	count := 0
	for i, a := range l {
		b := l[(i+1)%len(l)]
		if onSegment(a, b, p) {
			return 0
		}
		if solved(p, at(p.X+1001, p.Y+1), a, b) {
			count++
		}
	}
	return 2*(count%2) - 1
}

func TestP14InsideOfSmallPolygons(t *testing.T) {
	for n := 3; n <= 5; n++ {
		polygons(n, grid(3), func(l []api.Point, is bool) {
			for _, p := range grid(5) {
				p = at(p.X-1, p.Y-1)
				if got, _ := geometry.Inside(l, p); is && got != byRay(l, p) {
					t.Fatalf("Inside %v %v: %d", l, p, got)
				}
			}
		})
	}
}

func TestP14InsideOfRandomPolygons(t *testing.T) {
	s := numbers{41}
	for range 3000 {
		l := s.distinct(3+s.next(5), 8)
		if geometry.CheckPolygon(l) != api.OK {
			continue
		}
		for range 40 {
			p := s.point(9)
			got, _ := geometry.Inside(l, p)
			same(t, got, byRay(l, p), "Inside", l, p)
		}
	}
}

func TestP14Near(t *testing.T) {
	const m = api.MaxPlace
	slope := points(0, 0, 20, 10, 0, 10) // p = (4, 1): the cross product with (20, 10) is 20, divided by the span 23: 0
	for _, c := range []struct {
		l       []api.Point
		x, y, d int
		want    bool
	}{
		{square(), 6, 2, 2, true},
		{square(), 7, 2, 2, false},
		{square(), 7, 8, 5, true},
		{square(), 7, 8, 4, false},
		{square(), 2, 2, 0, true},
		{square(), 4, 2, 0, true},
		{square(), 5, 2, 0, false},
		{square(), -3, -4, 5, true},
		{square(), -3, -4, 4, false},
		{square(), 2, -7, 7, true},
		{square(), 2, -7, 6, false},
		{square(), 5, 4, 1, true},
		{square(), 5, 5, 1, false},
		{square(), m, m, m, false},
		{square(), m, 2, m - 4, true},
		{square(), m, 2, m - 5, false},
		{bay(), 4, 6, 0, false},
		{bay(), 4, 6, 1, true},
		{slope, 4, 1, 0, true},    // not inside, but the offset is rounded down to 0
		{slope, 6, 1, 0, false},   // the cross product is 40: 1
		{slope, -2, -2, 0, false}, // beyond the end: only the distance from the corner counts
		{slope, -2, -1, 2, false},
		{slope, -2, -1, 3, true},
		{points(-m, -m, 1-m, -m, -m, 1-m), m, m, m, false},
	} {
		is, e := geometry.Near(c.l, at(c.x, c.y), c.d)
		same(t, is, c.want, "Near", c)
		same(t, e, api.OK, "Near", c)
	}
}

// nearBy is the definition of the chapter, with other functions of the package.
func nearBy(l []api.Point, p api.Point, d int) bool {
	if byRay(l, p) >= 0 {
		return true
	}
	for i, a := range l {
		b := l[(i+1)%len(l)]
		if geometry.Square(p, a) <= d*d || geometry.Square(p, b) <= d*d {
			return true
		}
		number := (b.X-a.X)*(p.X-a.X) + (b.Y-a.Y)*(p.Y-a.Y)
		along, _ := geometry.Along(a, b, p)
		offset, _ := geometry.Offset(a, b, p)
		if along >= 0 && number <= geometry.Square(a, b) && offset <= d {
			return true
		}
	}
	return false
}

func TestP14NearRandomPolygons(t *testing.T) {
	s := numbers{15}
	for range 3000 {
		l := s.distinct(3+s.next(4), 8)
		if geometry.CheckPolygon(l) != api.OK {
			continue
		}
		for range 40 {
			p, d := s.point(12), s.next(5)
			is, _ := geometry.Near(l, p, d)
			same(t, is, nearBy(l, p, d), "Near", l, p, d)
		}
	}
}

func TestP14Touches(t *testing.T) {
	for _, c := range []struct {
		l, r []api.Point
		want bool
	}{
		{square(), points(4, 4, 9, 9), true},
		{square(), points(5, 0, 9, 9), false},
		{square(), points(1, 1, 2, 2), true},
		{square(), points(-5, 1, 9, 2), true},
		{square(), points(1, -5, 2, 9), true},
		{square(), points(-5, -5, 9, 9), true},
		{square(), points(-9, 4, 0, 9), true},
		{square(), points(-9, 5, 9, 9), false},
		{square(), points(-9, -9, 9, -1), false},
		{square(), points(2, 2, 2, 2), true},
		{square(), points(4, 2, 4, 2), true},
		{square(), points(5, 2, 5, 2), false},
		{square(), points(-1, 2, 5, 2), true},
		{bay(), points(4, 4, 5, 8), false},
		{bay(), points(4, 4, 5, 20), false},
		{bay(), points(4, 3, 5, 20), true},
		{bay(), points(3, 4, 5, 8), true},
		{bay(), points(4, 7, 8, 7), true},
		{points(0, 0, 10, 10, 0, 20), points(6, 0, 9, 5), false}, // within the box of the polygon
		{points(0, 0, 10, 10, 0, 20), points(6, 0, 9, 6), true},
		{points(0, 0, 10, 10, 0, 20), points(6, 0, 9, 9), true},
	} {
		is, e := geometry.Touches(c.l, c.r[0], c.r[1])
		same(t, is, c.want, "Touches", c)
		same(t, e, api.OK, "Touches", c)
	}
}

// touchesBy looks at the borders and at one point of each.
func touchesBy(l []api.Point, a, b api.Point) bool {
	r := []api.Point{a, at(b.X, a.Y), b, at(a.X, b.Y)}
	for i, p := range l {
		for j, q := range r {
			if solved(p, l[(i+1)%len(l)], q, r[(j+1)%4]) {
				return true
			}
		}
	}
	p := l[0]
	return byRay(l, a) >= 0 || a.X <= p.X && p.X <= b.X && a.Y <= p.Y && p.Y <= b.Y
}

func TestP14TouchesRandomRectangles(t *testing.T) {
	s := numbers{16}
	for range 3000 {
		l := s.distinct(3+s.next(5), 8)
		if geometry.CheckPolygon(l) != api.OK {
			continue
		}
		for range 40 {
			a := s.point(9)
			b := at(a.X+s.next(7), a.Y+s.next(7))
			is, e := geometry.Touches(l, a, b)
			same(t, is, touchesBy(l, a, b), "Touches", l, a, b)
			same(t, e, api.OK, "Touches", l, a, b)
		}
	}
}

func TestP14ErrorOfThePolygonFirst(t *testing.T) {
	bad := append(square(), far)
	for want, l := range map[api.Errno][]api.Point{
		api.ErrShape: square()[:2],
		api.ErrLarge: ring(41),
		api.ErrRange: bad,
		api.ErrForm:  points(0, 0, 4, 4, 4, 0, 0, 4),
	} {
		n, e := geometry.Area(l)
		same(t, n, 0, "Area", l)
		same(t, e, want, "Area", l)
		n, e = geometry.Inside(l, far)
		same(t, n, 0, "Inside", l)
		same(t, e, want, "Inside", l)
		is, e := geometry.Near(l, far, -1)
		same(t, is, false, "Near", l)
		same(t, e, want, "Near", l)
		is, e = geometry.Touches(l, far, at(0, 0))
		same(t, is, false, "Touches", l)
		same(t, e, want, "Touches", l)
	}
}

func TestP14OtherErrors(t *testing.T) {
	near := func(p api.Point, d int, want api.Errno) {
		t.Helper()
		is, e := geometry.Near(square(), p, d)
		same(t, is, want == api.OK, "Near", p, d)
		same(t, e, want, "Near", p, d)
	}
	touches := func(a, b api.Point, want api.Errno) {
		t.Helper()
		is, e := geometry.Touches(square(), a, b)
		same(t, is, want == api.OK, "Touches", a, b)
		same(t, e, want, "Touches", a, b)
	}
	for _, p := range outside() {
		n, e := geometry.Inside(square(), p)
		same(t, n, 0, "Inside", p)
		same(t, e, api.ErrRange, "Inside", p)
		near(p, 5, api.ErrRange)
		touches(p, at(1, 1), api.ErrRange)
		touches(at(1, 1), p, api.ErrRange)
		touches(at(5, 5), p, api.ErrRange)
	}
	for d, want := range map[int]api.Errno{
		-1: api.ErrRange, 0: api.OK, api.MaxPlace: api.OK, api.MaxPlace + 1: api.ErrRange,
		math.MinInt: api.ErrRange, math.MaxInt: api.ErrRange,
	} {
		near(at(1, 1), d, want)
	}
	touches(at(2, 1), at(1, 2), api.ErrOrder)
	touches(at(1, 2), at(2, 1), api.ErrOrder)
	touches(at(2, 2), at(1, 1), api.ErrOrder)
	touches(at(1, 1), at(1, 1), api.OK)
}
