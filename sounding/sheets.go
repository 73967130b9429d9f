package sounding

import (
	"cmp"
	"slices"

	"draghead/api"
)

const (
	mostHeight = 100000 // centimetres above and below chart datum that a sounding may tell
	mostRadius = 2 * api.MaxPlace
)

// Check returns what is wrong with a sheet (P3.2).
func Check(l []api.Sounding) api.Errno {
	return checkList(l, isSounding, numberOf)
}

// Near returns the numbers of the n soundings that are nearest to a place, the nearest one first.
func Near(l []api.Sounding, p api.Point, n int) ([]int, api.Errno) {
	if e := Check(l); e != api.OK {
		return nil, e
	}
	if !isPlace(p.X, p.Y) || n < 0 {
		return nil, api.ErrRange
	}
	var out []int
	for _, s := range nearest(l, p, n) {
		out = append(out, s.Number)
	}
	return out, api.OK
}

// Without returns the soundings whose numbers are not listed.
func Without(l []api.Sounding, numbers []int) ([]api.Sounding, api.Errno) {
	if e := Check(l); e != api.OK {
		return nil, e
	}
	sheet := byNumber(l)
	listed := map[int]bool{}
	for _, n := range numbers {
		if _, is := sheet[n]; !is {
			return nil, api.ErrMissing
		}
		listed[n] = true
	}
	return choose(l, func(s api.Sounding) bool { return !listed[s.Number] }), api.OK
}

// Merge returns the soundings of two sheets, ascending by their numbers.
func Merge(a, b []api.Sounding) ([]api.Sounding, api.Errno) {
	if e := checkSheets(a, b); e != api.OK {
		return nil, e
	}
	first := byNumber(a)
	out := slices.Clone(a)
	for _, s := range b {
		other, is := first[s.Number]
		if is && other != s {
			return nil, api.ErrConflict
		}
		if !is {
			out = append(out, s)
		}
	}
	if len(out) > api.MaxSoundings {
		return nil, api.ErrLarge
	}
	slices.SortFunc(out, func(s, t api.Sounding) int { return cmp.Compare(s.Number, t.Number) })
	return out, api.OK
}

// Shift returns the soundings with all levels greater by so much.
func Shift(l []api.Sounding, by int) ([]api.Sounding, api.Errno) {
	if e := Check(l); e != api.OK {
		return nil, e
	}
	out := slices.Clone(l)
	for i, s := range out {
		// The room that is left is compared, for a sum with by, which is any integer, may overflow.
		if by < -mostHeight-s.Lo || by > mostHeight-s.Hi {
			return nil, api.ErrRange
		}
		out[i].Lo += by
		out[i].Hi += by
	}
	return out, api.OK
}

// checkList returns what is wrong with a list whose elements have different numbers.
func checkList[S any](l []S, isValid func(S) bool, number func(S) int) api.Errno {
	if len(l) > api.MaxSoundings {
		return api.ErrLarge
	}
	seen := map[int]bool{}
	for _, s := range l {
		if !isValid(s) {
			return api.ErrRange
		}
		if seen[number(s)] {
			return api.ErrExists
		}
		seen[number(s)] = true
	}
	return api.OK
}

// checkSheets returns the error of the first sheet, or else that of the second one.
func checkSheets(a, b []api.Sounding) api.Errno {
	if e := Check(a); e != api.OK {
		return e
	}
	return Check(b)
}

func checkRadius(radius int) api.Errno {
	if !within(radius, 0, mostRadius) {
		return api.ErrRange
	}
	return api.OK
}

func isSounding(s api.Sounding) bool {
	return isNumber(s.Number) && isPlace(s.X, s.Y) && -mostHeight <= s.Lo && s.Lo <= s.Hi && s.Hi <= mostHeight
}

func numberOf(s api.Sounding) int {
	return s.Number
}

func isNumber(n int) bool {
	return within(n, 1, api.MaxNumber)
}

func isPlace(x, y int) bool {
	return within(x, -api.MaxPlace, api.MaxPlace) && within(y, -api.MaxPlace, api.MaxPlace)
}

func within(n, least, most int) bool {
	return least <= n && n <= most
}

func byNumber(l []api.Sounding) map[int]api.Sounding {
	out := map[int]api.Sounding{}
	for _, s := range l {
		out[s.Number] = s
	}
	return out
}

// choose returns the soundings that are wanted, in the order of l.
func choose(l []api.Sounding, isWanted func(api.Sounding) bool) []api.Sounding {
	var out []api.Sounding
	for _, s := range l {
		if isWanted(s) {
			out = append(out, s)
		}
	}
	return out
}

func placeOf(s api.Sounding) api.Point {
	return api.Point{X: s.X, Y: s.Y}
}

// square returns the squared distance of a sounding from a place.
func square(s api.Sounding, p api.Point) int {
	x, y := s.X-p.X, s.Y-p.Y
	return x*x + y*y
}

// isClose reports whether two soundings are within the radius of each other.
func isClose(a, b api.Sounding, radius int) bool {
	return square(a, placeOf(b)) <= radius*radius
}

// nearest returns the n soundings that are nearest to p, the nearest one first; all if there are not so many.
func nearest(l []api.Sounding, p api.Point, n int) []api.Sounding {
	out := slices.Clone(l)
	slices.SortFunc(out, nearer(p))
	return out[:min(n, len(out))]
}

// nearer returns the function that compares two soundings by how near they are to p.
func nearer(p api.Point) func(a, b api.Sounding) int {
	return func(a, b api.Sounding) int {
		return cmp.Or(cmp.Compare(square(a, p), square(b, p)), cmp.Compare(a.Number, b.Number))
	}
}
