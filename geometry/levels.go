package geometry

import "draghead/api"

// Level returns the level at p of the plane through the nodes of a triangle (P1.7).
func Level(l []api.Node, t api.Triangle, p api.Point) (api.Frac, api.Errno) {
	k, e := checkNodes(l, t)
	if e != api.OK {
		return api.Frac{}, e
	}
	if !inRange(p) {
		return api.Frac{}, api.ErrRange
	}
	// Each level counts by the part of the triangle that p and the other two corners cut off.
	sum := 0
	for i, n := range [3]int{t.A, t.B, t.C} {
		sum += l[n].Level * cross(p, k[(i+1)%3], k[(i+2)%3])
	}
	return lowest(sum, cross(k[0], k[1], k[2])), api.OK
}

// Prism returns six times the volume between the triangle of the nodes and the same triangle at a level.
func Prism(l []api.Node, t api.Triangle, level int) (int, api.Errno) {
	k, e := checkNodes(l, t)
	if e != api.OK {
		return 0, e
	}
	if !within(level, api.MaxLevel) {
		return 0, api.ErrRange
	}
	sum := l[t.A].Level + l[t.B].Level + l[t.C].Level
	return size(cross(k[0], k[1], k[2])) * (sum - 3*level), api.OK
}

// checkNodes returns the places of the nodes of a triangle, or what is wrong with the nodes or with the triangle.
func checkNodes(l []api.Node, t api.Triangle) (corners, api.Errno) {
	if len(l) > api.MaxNodes {
		return corners{}, api.ErrLarge
	}
	places := make([]api.Point, 0, len(l))
	for _, n := range l {
		p := api.Point{X: n.X, Y: n.Y}
		if !inRange(p) || !within(n.Level, api.MaxLevel) {
			return corners{}, api.ErrRange
		}
		places = append(places, p)
	}
	k, ok := pick(places, t)
	if !ok {
		return corners{}, api.ErrMissing
	}
	if cross(k[0], k[1], k[2]) == 0 {
		return corners{}, api.ErrShape
	}
	return k, api.OK
}

// lowest returns a fraction in lowest terms with a positive denominator; the given one is not 0.
func lowest(num, den int) api.Frac {
	d := divisor(size(num), size(den))
	return api.Frac{Num: sign(den) * num / d, Den: size(den) / d}
}

func divisor(a, b int) int {
	for b != 0 {
		a, b = b, a%b
	}
	return a
}
