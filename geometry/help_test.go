package geometry_test

import (
	"math"
	"testing"

	"draghead/api"
	"draghead/geometry"
)

// far is a point that is not in range, near is one that just is.
var (
	far  = at(api.MaxPlace+1, 0)
	near = at(-api.MaxPlace, api.MaxPlace)
)

func at(x, y int) api.Point { return api.Point{X: x, Y: y} }

// points makes a list of pairs of coordinates.
func points(l ...int) []api.Point {
	var out []api.Point
	for i := 0; i+1 < len(l); i += 2 {
		out = append(out, at(l[i], l[i+1]))
	}
	return out
}

// square is a polygon with the corners (0, 0) and (4, 4).
func square() []api.Point { return points(0, 0, 4, 0, 4, 4, 0, 4) }

// bay is a polygon that is not convex: a U that is open above.
func bay() []api.Point { return points(0, 0, 9, 0, 9, 9, 6, 9, 6, 3, 3, 3, 3, 9, 0, 9) }

// ring is a polygon with n corners: half of them along the bottom, half along the top.
func ring(n int) []api.Point {
	var out []api.Point
	for i := range n / 2 {
		out = append(out, at(i, i*i))
	}
	for i := range n - n/2 {
		out = append(out, at(n-i, 10000-i))
	}
	return out
}

// numbers is a sequence that looks irregular and is always the same.
type numbers struct{ state uint64 }

// next is a number from 0 to below n.
func (s *numbers) next(n int) int {
	s.state = s.state*6364136223846793005 + 1442695040888963407
	return int(s.state>>33) % n
}

// point is a point whose coordinates are from -most to most.
func (s *numbers) point(most int) api.Point {
	return at(s.next(2*most+1)-most, s.next(2*most+1)-most)
}

// distinct is n points, no two of them equal.
func (s *numbers) distinct(n, most int) []api.Point {
	seen := map[api.Point]bool{}
	var out []api.Point
	for len(out) < n {
		if p := s.point(most); !seen[p] {
			seen[p] = true
			out = append(out, p)
		}
	}
	return out
}

// outside is points that are not in range, some so far that products overflow.
func outside() []api.Point {
	const m = api.MaxPlace
	return []api.Point{
		at(m+1, 0), at(-m-1, 0), at(0, m+1), at(0, -m-1),
		at(math.MaxInt, 0), at(math.MinInt, 0), at(0, math.MaxInt), at(math.MinInt, math.MinInt),
	}
}

// onOneLine looks at all triples with the first point.
func onOneLine(l []api.Point) bool {
	for _, a := range l {
		for _, b := range l {
			if geometry.Orient(l[0], a, b) != 0 {
				return false
			}
		}
	}
	return true
}

// same fails the test if got is not want.
func same[T comparable](t *testing.T, got, want T, what string, about ...any) {
	t.Helper()
	if got != want {
		t.Errorf("%s %v: %v instead of %v", what, about, got, want)
	}
}
