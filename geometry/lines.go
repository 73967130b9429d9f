package geometry

import "draghead/api"

// side is a segment, from its first point to its second one.
type side [2]api.Point

// box is a rectangle: its lower left and its upper right corner.
type box [2]api.Point

// Offset returns how far p is from the straight line through a and b, by the span of a and b (P1.2).
func Offset(a, b, p api.Point) (int, api.Errno) {
	if e := checkLine(a, b, p); e != api.OK {
		return 0, e
	}
	return offset(a, b, p), api.OK
}

// Along returns how far p is along the straight line from a to b, by their span (P1.2).
func Along(a, b, p api.Point) (int, api.Errno) {
	if e := checkLine(a, b, p); e != api.OK {
		return 0, e
	}
	return divideDown(dot(a, b, p), Span(a, b)), api.OK
}

// Between reports whether p is on the segment from a to b.
func Between(a, b, p api.Point) bool {
	return inRange(a, b, p) && between(side{a, b}, p)
}

// Meet reports whether the segments from a to b and from c to d have a point in common.
func Meet(a, b, c, d api.Point) bool {
	return inRange(a, b, c, d) && meet(side{a, b}, side{c, d})
}

func checkLine(a, b, p api.Point) api.Errno {
	if !inRange(a, b, p) {
		return api.ErrRange
	}
	if a == b {
		return api.ErrNone
	}
	return api.OK
}

func offset(a, b, p api.Point) int {
	return size(cross(a, b, p)) / Span(a, b)
}

// divideDown divides by a positive number; the division of the language rounds towards 0.
func divideDown(n, by int) int {
	q := n / by
	if n%by < 0 {
		q--
	}
	return q
}

func between(s side, p api.Point) bool {
	return overlap(boxOf(s), box{p, p}) && cross(s[0], s[1], p) == 0
}

// meet: segments whose boxes overlap have a point in common unless one of them lies wholly on one side of the line through the other.
func meet(s, t side) bool {
	return overlap(boxOf(s), boxOf(t)) && reaches(s, t[0], t[1]) && reaches(t, s[0], s[1])
}

// reaches reports whether the points are not all strictly on one side of the line through s.
func reaches(s side, l ...api.Point) bool {
	left, right := false, false
	for _, p := range l {
		c := cross(s[0], s[1], p)
		left = left || c >= 0
		right = right || c <= 0
	}
	return left && right
}

func overlap(a, b box) bool {
	return a[0].X <= b[1].X && b[0].X <= a[1].X && a[0].Y <= b[1].Y && b[0].Y <= a[1].Y
}

func boxOf(s side) box {
	a, b := s[0], s[1]
	return box{{X: min(a.X, b.X), Y: min(a.Y, b.Y)}, {X: max(a.X, b.X), Y: max(a.Y, b.Y)}}
}
