package geometry_test

import (
	"math"
	"slices"
	"testing"

	"draghead/api"
	"draghead/geometry"
)

// triangles makes a list of triples of numbers.
func triangles(l ...int) []api.Triangle {
	var out []api.Triangle
	for i := 0; i+2 < len(l); i += 3 {
		out = append(out, api.Triangle{A: l[i], B: l[i+1], C: l[i+2]})
	}
	return out
}

func TestP16Triangulate(t *testing.T) {
	const m, p = api.MaxPlace, api.MaxPatch
	for _, c := range []struct {
		l    []api.Point
		want []api.Triangle
	}{
		{points(0, 0, 0, 2, 2, 0, 2, 2), triangles(0, 2, 3, 0, 3, 1)},
		{points(2, 2, 2, 0, 0, 2, 0, 0), triangles(0, 2, 3, 0, 3, 1)},
		{points(0, 2, 2, 2, 0, 0, 2, 0), triangles(0, 2, 1, 1, 2, 3)},
		{points(0, 0, 6, 0, 0, 6, 1, 1), triangles(0, 1, 3, 0, 3, 2, 1, 2, 3)},
		{points(0, 0, 2, 1, 4, 0, 2, -1), triangles(0, 3, 1, 1, 3, 2)},
		{points(0, 0, 4, 0, 0, 4), triangles(0, 1, 2)},
		{points(0, 0, 0, 4, 4, 0), triangles(0, 2, 1)},
		{points(0, 0, 2, 0, 4, 0, 2, 3), triangles(0, 1, 3, 1, 2, 3)},
		{points(m-p, m-p, m, m-p, m, m, m-p, m), triangles(0, 1, 2, 0, 2, 3)},
		// five points on one circle: all triangles have the point 2, (-5, 0), which is the first one by X
		{points(5, 0, 3, 4, -5, 0, 4, -3, 0, 5), triangles(0, 1, 2, 0, 2, 3, 1, 4, 2)},
	} {
		got, e := geometry.Triangulate(c.l)
		same(t, e, api.OK, "Triangulate", c.l)
		if !slices.Equal(got, c.want) {
			t.Errorf("Triangulate %v: %v instead of %v", c.l, got, c.want)
		}
		same(t, geometry.CheckTriangles(c.l, c.want), api.OK, "CheckTriangles", c.l)
	}
}

func TestP16Errors(t *testing.T) {
	const p = api.MaxPatch
	long := make([]api.Point, api.MaxNodes+1)
	long[0] = far
	for _, c := range []struct {
		l    []api.Point
		want api.Errno
	}{
		{long, api.ErrLarge},
		{[]api.Point{at(0, 0), at(0, 0), far}, api.ErrRange},
		{points(0, 0, 1, 1, 0, 0), api.ErrExists},
		{points(0, 0, 0, 0), api.ErrExists},
		{points(0, 0, p+1, 0, 5, 5, 0, 0), api.ErrExists},
		{long[1:], api.ErrExists},
		{points(0, 0, p+1, 1, 5, 5), api.ErrLarge},
		{points(0, 0, 1, p+1, 5, 5), api.ErrLarge},
		{points(0, 0, -1, 1, p, 5), api.ErrLarge},
		{points(0, 0, 1, -1, 5, p), api.ErrLarge},
		{points(0, 0, p+1, 0), api.ErrLarge},
		{points(0, 0, p+1, 0, p+2, 0), api.ErrLarge},
		{nil, api.ErrShape},
		{[]api.Point{}, api.ErrShape},
		{points(1, 1), api.ErrShape},
		{points(1, 1, 2, 2), api.ErrShape},
		{points(0, 0, 1, 1, 2, 2), api.ErrShape},
		{points(3, 0, 3, 9, 3, 4, 3, 5), api.ErrShape},
	} {
		got, e := geometry.Triangulate(c.l)
		same(t, len(got), 0, "Triangulate", c.l)
		same(t, e, c.want, "Triangulate", c.l)
		same(t, geometry.CheckTriangles(c.l, nil), c.want, "CheckTriangles", c.l)
		same(t, geometry.CheckTriangles(c.l, triangles(0, 1, 2)), c.want, "CheckTriangles", c.l)
	}
	for _, p := range outside() {
		l := append(square(), p)
		_, e := geometry.Triangulate(l)
		same(t, e, api.ErrRange, "Triangulate", l)
		same(t, geometry.CheckTriangles(l, nil), api.ErrRange, "CheckTriangles", l)
	}
}

func TestP16CheckTriangles(t *testing.T) {
	l := points(0, 0, 0, 2, 2, 0, 2, 2)
	for _, c := range []struct {
		t    []api.Triangle
		want api.Errno
	}{
		{triangles(0, 2, 3, 0, 3, 1), api.OK},
		{triangles(0, 3, 1, 0, 2, 3), api.ErrProof},          // in another order
		{triangles(2, 3, 0, 0, 3, 1), api.ErrProof},          // not from the least number on
		{triangles(0, 3, 2, 0, 1, 3), api.ErrProof},          // clockwise
		{triangles(0, 2, 1, 1, 2, 3), api.ErrProof},          // the other diagonal
		{triangles(0, 2, 3), api.ErrProof},                   // one is missing
		{triangles(0, 2, 3, 0, 3, 1, 0, 3, 1), api.ErrProof}, // one too many
		{triangles(0, 2, 3, 0, 3, 4), api.ErrProof},
		{[]api.Triangle{{A: math.MinInt, B: math.MaxInt, C: -1}}, api.ErrProof},
		{nil, api.ErrProof},
	} {
		same(t, geometry.CheckTriangles(l, c.t), c.want, "CheckTriangles", c.t)
	}
}

// first is the one of two points that comes first by X, then by Y.
func first(a, b api.Point) api.Point {
	if a.X < b.X || a.X == b.X && a.Y < b.Y {
		return a
	}
	return b
}

// isTriangle is the definition of the chapter, for a, b, c that turn counterclockwise.
func isTriangle(l []api.Point, a, b, c api.Point) bool {
	circle := []api.Point{a, b, c}
	lead := first(first(a, b), c)
	for _, p := range l {
		side, _ := geometry.InCircle(a, b, c, p)
		if side == 1 {
			return false
		}
		if side == 0 {
			circle = append(circle, p)
			lead = first(lead, p)
		}
	}
	other := map[api.Point][2]api.Point{a: {b, c}, b: {c, a}, c: {a, b}}
	line, is := other[lead]
	for _, p := range circle {
		is = is && geometry.Orient(line[0], line[1], p) >= 0
	}
	return is
}

// byDefinition is the triangulation of a patch.
func byDefinition(l []api.Point) []api.Triangle {
	var out []api.Triangle
	for a := range l {
		for b := a + 1; b < len(l); b++ {
			for c := a + 1; c < len(l); c++ {
				if geometry.Orient(l[a], l[b], l[c]) > 0 && isTriangle(l, l[a], l[b], l[c]) {
					out = append(out, api.Triangle{A: a, B: b, C: c})
				}
			}
		}
	}
	return out
}

// covers checks P1.8: the areas add up to that of the hull, and there are as many triangles as there must be.
func covers(t *testing.T, l []api.Point, got []api.Triangle) {
	t.Helper()
	h, _ := geometry.Hull(l)
	area, sum, border := 0, 0, 0
	for i := range h {
		area += geometry.Cross(h[0], h[i], h[(i+1)%len(h)])
	}
	for _, x := range got {
		sum += geometry.Cross(l[x.A], l[x.B], l[x.C])
	}
	for _, p := range l {
		for i := range h {
			if geometry.Between(h[i], h[(i+1)%len(h)], p) {
				border++
				break
			}
		}
	}
	same(t, sum, area, "area of the triangles", l)
	same(t, len(got), 2*len(l)-2-border, "number of the triangles", l)
}

func TestP16AndP18RandomPatches(t *testing.T) {
	s := numbers{19}
	for _, c := range []struct{ most, points, rounds int }{
		{1, 9, 200}, {2, 14, 500}, {3, 24, 150}, {5, 40, 40}, {1000, 20, 100}, {api.MaxPatch / 2, 40, 20}, {4, 64, 10}, {api.MaxPatch / 2, 64, 5},
	} {
		for range c.rounds {
			l := s.distinct(3+s.next(c.points-2), c.most)
			if onOneLine(l) {
				continue
			}
			kept := slices.Clone(l)
			got, e := geometry.Triangulate(l)
			if want := byDefinition(l); e != api.OK || !slices.Equal(got, want) {
				t.Fatalf("Triangulate %v: %v, %d instead of %v", l, got, e, want)
			}
			covers(t, l, got)
			same(t, geometry.CheckTriangles(l, got), api.OK, "CheckTriangles", l)
			if !slices.Equal(l, kept) {
				t.Fatalf("Triangulate writes into %v", kept)
			}
		}
	}
}

// As many points on one circle as a patch may have: all triangles have the first one.
func TestP16OneCircle(t *testing.T) {
	const radius = 1105
	var l []api.Point
	for y := -radius; y <= radius && len(l) < api.MaxNodes; y++ {
		x := 0
		for x*x+y*y < radius*radius {
			x++
		}
		if x*x+y*y == radius*radius {
			l = append(l, at(x, y))
			if x > 0 && len(l) < api.MaxNodes {
				l = append(l, at(-x, y))
			}
		}
	}
	lead := 0
	for i, p := range l {
		if first(p, l[lead]) == p {
			lead = i
		}
	}
	got, e := geometry.Triangulate(l)
	same(t, e, api.OK, "Triangulate")
	same(t, len(l), api.MaxNodes, "points")
	same(t, len(got), api.MaxNodes-2, "triangles")
	covers(t, l, got)
	for _, x := range got {
		if x.A != lead && x.B != lead && x.C != lead {
			t.Errorf("the triangle %v has not the first point %d", x, lead)
		}
	}
}

func TestP16Locate(t *testing.T) {
	l := points(0, 0, 4, 0, 4, 4, 0, 4, 9, 9)
	two := triangles(0, 1, 2, 0, 2, 3)
	many := make([]api.Triangle, 128)
	for i := range many {
		many[i] = two[1]
	}
	many[127] = two[0]
	for _, c := range []struct {
		t    []api.Triangle
		x, y int
		n    int
		e    api.Errno
	}{
		{two, 3, 1, 0, api.OK},
		{two, 1, 3, 1, api.OK},
		{two, 2, 2, 0, api.OK},
		{triangles(0, 2, 3, 0, 1, 2), 2, 2, 0, api.OK},
		{triangles(0, 2, 3, 0, 1, 2), 3, 1, 1, api.OK},
		{two, 0, 0, 0, api.OK},
		{two, 4, 4, 0, api.OK},
		{two, 0, 4, 1, api.OK},
		{two, 2, 4, 1, api.OK},
		{two, 4, 2, 0, api.OK},
		{two, 5, 2, 0, api.ErrNone},
		{two, 2, 5, 0, api.ErrNone},
		{two, -1, 0, 0, api.ErrNone},
		{two, 0, -1, 0, api.ErrNone},
		{two, 9, 9, 0, api.ErrNone},
		{nil, 2, 2, 0, api.ErrNone},
		{many, 3, 1, 127, api.OK},
		{triangles(2, 0, 1), 3, 1, 0, api.OK},                  // need not begin with the least number
		{triangles(0, 1, 4, 0, 1, 2), 4, 1, 0, api.OK},         // may overlap
		{triangles(0, 1, 2, 0, 1, 2), 3, 1, 0, api.OK},         // and stand there twice
		{triangles(0, 1, 2, 2, 3, 0), 0, 3, 1, api.OK},         // or be in any order
		{triangles(2, 4, 3, 0, 1, 2), 3, 2, 1, api.OK},         // not in the first, but in the second one
		{triangles(2, 4, 3), 3, 2, 0, api.ErrNone},             // on the one side of it only
		{triangles(2, 4, 3), 2, 4, 0, api.OK},                  // on its border
		{triangles(0, 1, 5), 1, 1, 0, api.ErrMissing},          // no such point
		{triangles(0, 1, -1), 1, 1, 0, api.ErrMissing},         // nor this one
		{triangles(5, 1, 2), 1, 1, 0, api.ErrMissing},          //
		{triangles(0, 7, 2), 1, 1, 0, api.ErrMissing},          //
		{triangles(0, 2, 1), 3, 1, 0, api.ErrShape},            // clockwise
		{triangles(0, 2, 4), 3, 1, 0, api.ErrShape},            // on one line
		{triangles(1, 1, 1), 4, 0, 0, api.ErrShape},            // a point
		{triangles(0, 1, 2, 0, 1, 9), 3, 1, 0, api.ErrMissing}, // behind the one that is found
		{triangles(0, 2, 1, 0, 1, 9), 3, 1, 0, api.ErrShape},   // triangle by triangle
		{triangles(0, 1, 9, 0, 2, 1), 3, 1, 0, api.ErrMissing}, //
	} {
		n, e := geometry.Locate(l, c.t, at(c.x, c.y))
		same(t, n, c.n, "Locate", c)
		same(t, e, c.e, "Locate", c)
	}
}

func TestP16ErrorsOfLocate(t *testing.T) {
	l := points(0, 0, 4, 0, 4, 4, 0, 0)
	one := triangles(0, 1, 2)
	long := make([]api.Point, api.MaxNodes+1)
	for _, c := range []struct {
		l    []api.Point
		t    []api.Triangle
		p    api.Point
		want api.Errno
	}{
		{l, one, at(1, 0), api.OK}, // equal points are allowed
		{long, make([]api.Triangle, 129), far, api.ErrLarge},
		{append(points(0, 0), far), make([]api.Triangle, 129), far, api.ErrRange},
		{l, make([]api.Triangle, 129), far, api.ErrLarge},
		{l, make([]api.Triangle, 128), far, api.ErrShape},
		{l, triangles(0, 1, math.MaxInt), far, api.ErrMissing},
		{l, triangles(math.MinInt, 1, 2), far, api.ErrMissing},
		{nil, one, far, api.ErrMissing},
		{l, one, far, api.ErrRange},
		{nil, nil, far, api.ErrRange},
		{nil, nil, at(0, 0), api.ErrNone},
	} {
		n, e := geometry.Locate(c.l, c.t, c.p)
		same(t, n, 0, "Locate", c)
		same(t, e, c.want, "Locate", c)
	}
	for _, p := range outside() {
		_, e := geometry.Locate(l, one, p)
		same(t, e, api.ErrRange, "Locate", p)
	}
}

// Each place in the hull belongs to a triangle, and each place outside of it to none.
func TestP18PlacesOfThePatch(t *testing.T) {
	s := numbers{20}
	for range 50 {
		l := s.distinct(3+s.next(12), 6)
		got, e := geometry.Triangulate(l)
		if e != api.OK {
			continue
		}
		h, _ := geometry.Hull(l)
		for range 100 {
			p := s.point(8)
			in, _ := geometry.Inside(h, p)
			_, e := geometry.Locate(l, got, p)
			same(t, e == api.OK, in >= 0, "Locate", l, p)
		}
	}
}
