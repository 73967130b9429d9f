package geometry_test

import (
	"math"
	"math/big"
	"slices"
	"testing"

	"draghead/api"
	"draghead/geometry"
)

// nodes makes a list of triples of numbers.
func nodes(l ...int) []api.Node {
	var out []api.Node
	for i := 0; i+2 < len(l); i += 3 {
		out = append(out, api.Node{X: l[i], Y: l[i+1], Level: l[i+2]})
	}
	return out
}

// allWays is the ways in which three nodes are a triangle, in both directions.
func allWays() []api.Triangle {
	return triangles(0, 1, 2, 1, 2, 0, 2, 0, 1, 0, 2, 1, 2, 1, 0, 1, 0, 2)
}

func TestP17Level(t *testing.T) {
	const m, z = api.MaxPlace, api.MaxLevel
	hill := nodes(0, 0, 0, 4, 0, 8, 0, 4, 4)
	half := nodes(0, 0, 0, 2, 0, 1, 0, 2, 1)
	third := nodes(0, 0, -500, 3, 0, -501, 0, 3, -500)
	wide := nodes(-m, -m, z, m, m, -z, -m, m, z)
	steep := nodes(0, 0, z, 1, 0, -z, 0, 1, -z)
	for _, c := range []struct {
		l        []api.Node
		x, y     int
		num, den int
	}{
		{hill, 1, 1, 3, 1},
		{hill, 1, 0, 2, 1},
		{hill, 0, 1, 1, 1},
		{hill, 0, 0, 0, 1},
		{hill, 4, 0, 8, 1},
		{hill, 0, 4, 4, 1},
		{hill, 0, -3, -3, 1},
		{hill, -1, 2, 0, 1},
		{hill, m, -m, m, 1},
		{half, 3, 2, 5, 2},
		{half, -3, 0, -3, 2},
		{third, 0, 0, -500, 1},
		{third, 1, 0, -1501, 3},
		{third, 2, 7, -1502, 3},
		{third, -3, 1, -499, 1},
		{nodes(0, 0, 0, 6, 0, 3, 0, 6, 2), 1, 0, 1, 2},
		{nodes(0, 0, 0, 6, 0, 3, 0, 6, 2), 1, 1, 5, 6},
		{wide, 0, 0, 0, 1},
		{wide, m, m, -z, 1},
		{wide, 1, 0, -1, 50},
		{wide, m - 1, m, 1 - m, 50},
		{steep, m, m, z - 4*z*m, 1},
		{steep, -m, -m, z + 4*z*m, 1},
		{nodes(m, m, z, -m, m-1, -z, -m, m, -z), -m, -m, -z, 1},
	} {
		for _, f := range allWays() {
			x, e := geometry.Level(c.l, f, at(c.x, c.y))
			same(t, x, api.Frac{Num: c.num, Den: c.den}, "Level", c, f)
			same(t, e, api.OK, "Level", c, f)
		}
	}
}

// byPlane solves the equations of the plane, with numbers of any length.
func byPlane(l []api.Node, p api.Point) *big.Rat {
	minor := func(a, b, c, d int) *big.Int { // a d - b c
		x := new(big.Int).Mul(big.NewInt(int64(a)), big.NewInt(int64(d)))
		return x.Sub(x, new(big.Int).Mul(big.NewInt(int64(b)), big.NewInt(int64(c))))
	}
	o, u, v := l[0], l[1], l[2]
	ux, uy, uz := u.X-o.X, u.Y-o.Y, u.Level-o.Level
	vx, vy, vz := v.X-o.X, v.Y-o.Y, v.Level-o.Level
	byX, byY := minor(uz, uy, vz, vy), minor(ux, uz, vx, vz)
	sum := new(big.Int).Mul(byX, big.NewInt(int64(p.X-o.X)))
	sum.Add(sum, new(big.Int).Mul(byY, big.NewInt(int64(p.Y-o.Y))))
	rise := new(big.Rat).SetFrac(sum, minor(ux, uy, vx, vy))
	return rise.Add(rise, new(big.Rat).SetInt64(int64(o.Level)))
}

func TestP17LevelAgainstLongNumbers(t *testing.T) {
	s := numbers{21}
	for _, most := range []int{3, 100, api.MaxPlace} {
		for range 5000 {
			l := make([]api.Node, 3)
			for i := range l {
				p := s.point(most)
				l[i] = api.Node{X: p.X, Y: p.Y, Level: api.MaxLevel - s.next(2)*s.next(2*api.MaxLevel+1)}
			}
			p := s.point(api.MaxPlace)
			x, e := geometry.Level(l, api.Triangle{A: 0, B: 1, C: 2}, p)
			if e == api.ErrShape {
				continue
			}
			want := byPlane(l, p)
			if e != api.OK || want.Num().Int64() != int64(x.Num) || want.Denom().Int64() != int64(x.Den) {
				t.Fatalf("Level %v %v: %v, %d instead of %v", l, p, x, e, want)
			}
		}
	}
}

// The corners of the range: the products are as great as they can be.
func TestP17GreatestNumbers(t *testing.T) {
	const m, z = api.MaxPlace, api.MaxLevel
	corner := func(n int) api.Node {
		return api.Node{X: (n%2*2 - 1) * m, Y: (n/2%2*2 - 1) * m, Level: (n/4*2 - 1) * z}
	}
	for n := range 512 {
		l := []api.Node{corner(n % 8), corner(n / 8 % 8), corner(n / 64)}
		for k := range 4 {
			p := at(corner(k).X, corner(k).Y)
			x, e := geometry.Level(l, api.Triangle{A: 0, B: 1, C: 2}, p)
			if e == api.ErrShape {
				continue
			}
			want := byPlane(l, p)
			same(t, int64(x.Num), want.Num().Int64(), "Level", l, p)
			same(t, int64(x.Den), want.Denom().Int64(), "Level", l, p)
		}
		for _, level := range []int{-z, z} {
			twice := geometry.Cross(at(l[0].X, l[0].Y), at(l[1].X, l[1].Y), at(l[2].X, l[2].Y))
			want := max(twice, -twice) * (l[0].Level + l[1].Level + l[2].Level - 3*level)
			got, _ := geometry.Prism(l, api.Triangle{A: 0, B: 1, C: 2}, level)
			same(t, got, want, "Prism", l, level)
		}
	}
}

// P1.8: the level by nodes of a plane is that of the plane.
func TestP18LevelsOfAPlane(t *testing.T) {
	s := numbers{22}
	for range 3000 {
		a, b, c := s.next(7)-3, s.next(7)-3, s.next(2001)-1000
		plane := func(p api.Point) int { return a*p.X + b*p.Y + c }
		var l []api.Node
		for _, p := range s.distinct(3, 2000) {
			l = append(l, api.Node{X: p.X, Y: p.Y, Level: plane(p)})
		}
		p := s.point(api.MaxPlace)
		x, e := geometry.Level(l, api.Triangle{A: 2, B: 0, C: 1}, p)
		if e != api.ErrShape {
			same(t, x, api.Frac{Num: plane(p), Den: 1}, "Level", l, p)
		}
	}
}

func TestP17Prism(t *testing.T) {
	const z = api.MaxLevel
	hill := nodes(0, 0, 0, 4, 0, 8, 0, 4, 4)
	for _, c := range []struct {
		l           []api.Node
		level, want int
	}{
		{hill, 0, 192},
		{hill, 4, 0},
		{hill, 6, -96},
		{hill, -1, 240},
		{hill, z, 16 * (12 - 3*z)},
		{hill, -z, 16 * (12 + 3*z)},
		{nodes(0, 0, -500, 1, 0, -501, 0, 1, -502), -501, 0},
		{nodes(0, 0, -500, 1, 0, -501, 0, 1, -502), -502, 3},
		{nodes(0, 0, -500, 1, 0, -501, 0, 1, -503), -501, -1},
	} {
		for _, f := range allWays() {
			n, e := geometry.Prism(c.l, f, c.level)
			same(t, n, c.want, "Prism", c, f)
			same(t, e, api.OK, "Prism", c, f)
		}
	}
}

func TestP17ErrorsOfNodes(t *testing.T) {
	const m, z = api.MaxPlace, api.MaxLevel
	long := make([]api.Node, api.MaxNodes+1)
	long[0].X = m + 1
	full := make([]api.Node, api.MaxNodes)
	full[62].X, full[63].Y = 1, 1
	flat := nodes(0, 0, 5, 1, 1, 6, 2, 2, 9, 0, 0, 7, 0, 3, 1)
	for _, c := range []struct {
		l    []api.Node
		t    api.Triangle
		want api.Errno
	}{
		{full, api.Triangle{A: 0, B: 62, C: 63}, api.OK},
		{long, api.Triangle{A: -1}, api.ErrLarge},
		{nodes(0, 0, 0, m+1, 0, 0), api.Triangle{A: 2}, api.ErrRange},
		{nodes(0, 0, 0, 0, -m-1, 0), api.Triangle{A: 2}, api.ErrRange},
		{nodes(0, 0, 0, 0, math.MinInt, 0), api.Triangle{}, api.ErrRange},
		{nodes(0, 0, 0, 0, 0, z+1), api.Triangle{}, api.ErrRange},
		{nodes(0, 0, 0, 0, 0, -z-1), api.Triangle{}, api.ErrRange},
		{nodes(0, 0, 0, 0, 0, math.MinInt), api.Triangle{}, api.ErrRange},
		{append(slices.Clone(flat), nodes(math.MaxInt, 0, 0)...), api.Triangle{A: 0, B: 1, C: 4}, api.ErrRange},
		{nil, api.Triangle{}, api.ErrMissing},
		{flat, api.Triangle{A: 0, B: 1, C: 5}, api.ErrMissing},
		{flat, api.Triangle{A: 0, B: 5, C: 4}, api.ErrMissing},
		{flat, api.Triangle{A: 5, B: 1, C: 4}, api.ErrMissing},
		{flat, api.Triangle{A: -1, B: 1, C: 4}, api.ErrMissing},
		{flat, api.Triangle{A: 0, B: math.MinInt, C: 4}, api.ErrMissing},
		{flat, api.Triangle{A: 0, B: 1, C: math.MaxInt}, api.ErrMissing},
		{flat, api.Triangle{A: 0, B: 0, C: 5}, api.ErrMissing},
		{flat, api.Triangle{A: 0, B: 1, C: 2}, api.ErrShape},
		{flat, api.Triangle{A: 0, B: 3, C: 4}, api.ErrShape},
		{flat, api.Triangle{A: 1, B: 1, C: 4}, api.ErrShape},
		{flat, api.Triangle{A: 0, B: 1, C: 4}, api.OK},
	} {
		x, e := geometry.Level(c.l, c.t, at(0, 0))
		same(t, e, c.want, "Level", c)
		same(t, x == api.Frac{}, c.want != api.OK, "Level", c)
		_, e = geometry.Prism(c.l, c.t, 0)
		same(t, e, c.want, "Prism", c)
		if c.want == api.OK {
			continue
		}
		// what is wrong with the nodes comes before what is wrong with the place or the level
		_, e = geometry.Level(c.l, c.t, far)
		same(t, e, c.want, "Level", c)
		n, e := geometry.Prism(c.l, c.t, z+1)
		same(t, n, 0, "Prism", c)
		same(t, e, c.want, "Prism", c)
	}
}

func TestP17ErrorsOfPlaceAndLevel(t *testing.T) {
	hill := nodes(0, 0, 0, 4, 0, 8, 0, 4, 4)
	f := api.Triangle{A: 0, B: 1, C: 2}
	for _, p := range outside() {
		x, e := geometry.Level(hill, f, p)
		same(t, x, api.Frac{}, "Level", p)
		same(t, e, api.ErrRange, "Level", p)
	}
	for _, level := range []int{api.MaxLevel + 1, -api.MaxLevel - 1, math.MaxInt, math.MinInt} {
		n, e := geometry.Prism(hill, f, level)
		same(t, n, 0, "Prism", level)
		same(t, e, api.ErrRange, "Prism", level)
	}
}
