package geometry

import (
	"slices"

	"draghead/api"
)

const mostTriangles = 128

// Triangulate returns the Delaunay triangulation of a patch (P1.6).
func Triangulate(l []api.Point) ([]api.Triangle, api.Errno) {
	if e := checkPatch(l); e != api.OK {
		return nil, e
	}
	var out []api.Triangle
	for a := range len(l) {
		for b := range len(l) {
			for c := range len(l) {
				if a < min(b, c) && isTriangle(l, corners{l[a], l[b], l[c]}) {
					out = append(out, api.Triangle{A: a, B: b, C: c})
				}
			}
		}
	}
	return out, api.OK
}

// CheckTriangles accepts the triangulation of a patch.
func CheckTriangles(l []api.Point, t []api.Triangle) api.Errno {
	want, e := Triangulate(l)
	if e != api.OK {
		return e
	}
	if !slices.Equal(t, want) {
		return api.ErrProof
	}
	return api.OK
}

// Locate returns the number of the first triangle to which p belongs.
func Locate(l []api.Point, t []api.Triangle, p api.Point) (int, api.Errno) {
	if e := checkLocate(l, t, p); e != api.OK {
		return 0, e
	}
	for i, x := range t {
		if k, _ := pick(l, x); belongs(k, p) {
			return i, api.OK
		}
	}
	return 0, api.ErrNone
}

func checkPatch(l []api.Point) api.Errno {
	if e := Check(l); e != api.OK {
		return e
	}
	if hasEqual(l) {
		return api.ErrExists
	}
	if !isClose(l...) {
		return api.ErrLarge
	}
	if len(hull(l)) < 3 {
		return api.ErrShape
	}
	return api.OK
}

func hasEqual(l []api.Point) bool {
	for i := range len(l) {
		if slices.Contains(l[:i], l[i]) {
			return true
		}
	}
	return false
}

// isTriangle reports whether three points of a patch are a triangle of its triangulation.
func isTriangle(l []api.Point, t corners) bool {
	if cross(t[0], t[1], t[2]) <= 0 {
		return false
	}
	t = fromFirst(t)
	for _, p := range l {
		where := circleSide(t, p)
		if where > 0 || where == 0 && !allows(t, p) {
			return false
		}
	}
	return true
}

// allows reports whether a triangle, whose first corner is the first point of it, may stand beside the point p on its circle.
func allows(t corners, p api.Point) bool {
	return comparePoints(t[0], p) <= 0 && cross(t[1], t[2], p) >= 0
}

// fromFirst turns the corners so that the first one by X and Y leads.
func fromFirst(t corners) corners {
	for range 2 {
		if comparePoints(t[0], t[1]) > 0 || comparePoints(t[0], t[2]) > 0 {
			t = corners{t[1], t[2], t[0]}
		}
	}
	return t
}

func checkLocate(l []api.Point, t []api.Triangle, p api.Point) api.Errno {
	if e := Check(l); e != api.OK {
		return e
	}
	if len(t) > mostTriangles {
		return api.ErrLarge
	}
	for _, x := range t {
		k, ok := pick(l, x)
		if !ok {
			return api.ErrMissing
		}
		if cross(k[0], k[1], k[2]) <= 0 {
			return api.ErrShape
		}
	}
	if !inRange(p) {
		return api.ErrRange
	}
	return api.OK
}

// pick returns the corners of a triangle; false if a number is not that of a point.
func pick(l []api.Point, t api.Triangle) (corners, bool) {
	var k corners
	for i, n := range [3]int{t.A, t.B, t.C} {
		if n < 0 || n >= len(l) {
			return corners{}, false
		}
		k[i] = l[n]
	}
	return k, true
}

// belongs reports whether p is in a triangle that turns counterclockwise, or on its border.
func belongs(k corners, p api.Point) bool {
	for i := range 3 {
		if cross(k[i], k[(i+1)%3], p) < 0 {
			return false
		}
	}
	return true
}
