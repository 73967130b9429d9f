package geometry

import "draghead/api"

// corners is the three corners of a triangle.
type corners [3]api.Point

// InCircle returns 1 if d is inside the circle through a, b and c, 0 if it is on it, -1 if it is outside (P1.3).
func InCircle(a, b, c, d api.Point) (int, api.Errno) {
	if !inRange(a, b, c, d) {
		return 0, api.ErrRange
	}
	if !isClose(a, b, c, d) {
		return 0, api.ErrLarge
	}
	turn := sign(cross(a, b, c))
	if turn == 0 {
		return 0, api.ErrShape
	}
	return turn * circleSide(corners{a, b, c}, d), api.OK
}

// circleSide is InCircle for corners that turn counterclockwise, without its errors.
func circleSide(t corners, d api.Point) int {
	sum := 0
	for i := range 3 {
		sum += square(t[i], d) * cross(d, t[(i+1)%3], t[(i+2)%3])
	}
	return sign(sum)
}

// isClose reports whether the X of points in range differ by at most MaxPatch, and their Y do.
func isClose(l ...api.Point) bool {
	for _, a := range l {
		for _, b := range l {
			if !within(a.X-b.X, api.MaxPatch) || !within(a.Y-b.Y, api.MaxPatch) {
				return false
			}
		}
	}
	return true
}
