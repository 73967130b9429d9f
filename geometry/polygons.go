package geometry

import "draghead/api"

const (
	leastCorners = 3
	mostCorners  = 40
)

// fault is an error of a polygon, and how it is found.
type fault struct {
	number api.Errno
	found  func(l []api.Point) bool
}

// polygonFaults is in the order in which the chapter lists the errors; the later ones rely on the absence of the earlier ones.
func polygonFaults() []fault {
	return []fault{
		{api.ErrShape, func(l []api.Point) bool { return len(l) < leastCorners }},
		{api.ErrLarge, func(l []api.Point) bool { return len(l) > mostCorners }},
		{api.ErrRange, func(l []api.Point) bool { return !inRange(l...) }},
		{api.ErrForm, sidesClash},
	}
}

// CheckPolygon returns what is wrong with a polygon (P1.4).
func CheckPolygon(l []api.Point) api.Errno {
	for _, f := range polygonFaults() {
		if f.found(l) {
			return f.number
		}
	}
	return api.OK
}

// Area returns twice the area of a polygon.
func Area(l []api.Point) (int, api.Errno) {
	if e := CheckPolygon(l); e != api.OK {
		return 0, e
	}
	sum := 0
	for _, s := range sides(l) {
		sum += cross(api.Point{}, s[0], s[1])
	}
	return size(sum), api.OK
}

// Inside returns 1 if p is inside of the border of a polygon, 0 if it is on it, -1 otherwise.
func Inside(l []api.Point, p api.Point) (int, api.Errno) {
	if e := CheckPolygon(l); e != api.OK {
		return 0, e
	}
	if !inRange(p) {
		return 0, api.ErrRange
	}
	return place(l, p), api.OK
}

// Near reports whether p is inside of a polygon, or within d of its border.
func Near(l []api.Point, p api.Point, d int) (bool, api.Errno) {
	if e := CheckPolygon(l); e != api.OK {
		return false, e
	}
	if !inRange(p) || d < 0 || d > api.MaxPlace {
		return false, api.ErrRange
	}
	if place(l, p) >= 0 {
		return true, api.OK
	}
	for _, s := range sides(l) {
		if nearSide(s, p, d) {
			return true, api.OK
		}
	}
	return false, api.OK
}

// Touches reports whether a polygon and the rectangle from a to b have a point in common.
func Touches(l []api.Point, a, b api.Point) (bool, api.Errno) {
	if e := CheckPolygon(l); e != api.OK {
		return false, e
	}
	if !inRange(a, b) {
		return false, api.ErrRange
	}
	if a.X > b.X || a.Y > b.Y {
		return false, api.ErrOrder
	}
	for _, s := range sides(l) {
		if meetsBox(s, box{a, b}) {
			return true, api.OK
		}
	}
	// No point of the border is in the rectangle: all of it is on the same side of the border.
	return place(l, a) > 0, api.OK
}

// sides is the edges of a polygon, from each corner to the next one.
func sides(l []api.Point) []side {
	out := make([]side, len(l))
	for i := range len(l) {
		out[i] = side{l[i], l[(i+1)%len(l)]}
	}
	return out
}

// sidesClash finds equal corners too: an edge that begins at one of them has too much in common with one at the other.
func sidesClash(l []api.Point) bool {
	all := sides(l)
	for i := range len(all) {
		for j := range i {
			if clash(all, j, i) {
				return true
			}
		}
	}
	return false
}

// clash reports whether the edges j and i, j being less, have more in common than they may.
func clash(all []side, j, i int) bool {
	if i == j+1 {
		return foldBack(all[j], all[i])
	}
	if j == 0 && i == len(all)-1 {
		return foldBack(all[i], all[j])
	}
	return meet(all[j], all[i])
}

// foldBack reports whether t, which begins where s ends, has another point in common with s.
func foldBack(s, t side) bool {
	return between(s, t[1]) || between(t, s[0])
}

// place is Inside for a polygon and a point without errors: it counts the edges that a ray from p to the right crosses.
func place(l []api.Point, p api.Point) int {
	where := -1
	for _, s := range sides(l) {
		if between(s, p) {
			return 0
		}
		upwards := s[1].Y > s[0].Y
		if (s[0].Y > p.Y) != (s[1].Y > p.Y) && upwards == (cross(s[0], s[1], p) > 0) {
			where = -where
		}
	}
	return where
}

func nearSide(s side, p api.Point, d int) bool {
	if square(s[0], p) <= d*d || square(s[1], p) <= d*d {
		return true
	}
	along := dot(s[0], s[1], p)
	return along >= 0 && along <= square(s[0], s[1]) && offset(s[0], s[1], p) <= d
}

// meetsBox: a segment and a rectangle have a point in common unless a line along a side of one of them lies between them.
func meetsBox(s side, b box) bool {
	low, high := b[0], b[1]
	return overlap(boxOf(s), b) && reaches(s, low, api.Point{X: high.X, Y: low.Y}, high, api.Point{X: low.X, Y: high.Y})
}
