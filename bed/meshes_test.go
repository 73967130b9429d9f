package bed_test

import (
	"math"
	"math/big"
	"slices"
	"testing"

	"draghead/api"
	"draghead/bed"
	"draghead/geometry"
)

// tri is a triangle of the nodes with these numbers.
func tri(a, b, c int) api.Triangle { return api.Triangle{A: a, B: b, C: c} }

// three is nodes that turn to the left.
func three() []api.Node {
	return []api.Node{node(0, 0, 0), node(4, 0, 8), node(0, 4, 4)}
}

// many is n nodes along a curve that turns to the left.
func many(n int) []api.Node {
	var out []api.Node
	for i := range n {
		out = append(out, node(i-500, i*i-farthest, i-500))
	}
	return out
}

func TestP47CheckMesh(t *testing.T) {
	const far, v = farthest, highest
	fine := tri(0, 1, 2)
	for _, c := range []struct {
		m    api.Mesh
		want api.Errno
	}{
		{api.Mesh{}, api.OK}, {mesh(three()), api.OK}, {mesh(three(), fine), api.OK}, {mesh(three(), tri(1, 2, 0), tri(2, 0, 1), fine, fine), api.OK},
		{mesh([]api.Node{node(5, 5, 5), node(5, 5, 5), node(5, 5, 6)}), api.OK}, // nodes may be equal
		{mesh([]api.Node{node(-far, -far, -v), node(far, far, v), node(-far, far, v), node(far, -far, -v)}), api.OK},
		{mesh(many(1024)), api.OK},
		{mesh(many(1025)), api.ErrLarge},
		{mesh(make([]api.Node, 1024)), api.OK},
		{mesh(make([]api.Node, 1025)), api.ErrLarge},
		{mesh(three(), slices.Repeat([]api.Triangle{fine}, 2048)...), api.OK},
		{mesh(three(), slices.Repeat([]api.Triangle{fine}, 2049)...), api.ErrLarge},
		{mesh(slices.Repeat([]api.Node{node(0, 0, v+1)}, 1025)), api.ErrLarge},           // before ErrRange
		{mesh([]api.Node{node(0, 0, v+1)}, make([]api.Triangle, 2049)...), api.ErrLarge}, // before ErrRange
		{mesh([]api.Node{node(0, 0, v+1)}, tri(-1, 5, 9)), api.ErrRange},                 // before ErrMissing
		{mesh(append(three(), node(far+1, 0, 0)), tri(0, 2, 1)), api.ErrRange},           // before ErrShape
		{mesh(append(three(), node(0, 0, -v-1)), fine), api.ErrRange},                    // though no triangle has the node
		{mesh(nil, fine), api.ErrMissing},
		{mesh(three(), tri(-1, 1, 2)), api.ErrMissing}, {mesh(three(), tri(0, -1, 2)), api.ErrMissing}, {mesh(three(), tri(0, 1, -1)), api.ErrMissing},
		{mesh(three(), tri(3, 1, 2)), api.ErrMissing}, {mesh(three(), tri(0, 3, 2)), api.ErrMissing}, {mesh(three(), tri(0, 1, 3)), api.ErrMissing},
		{mesh(three(), tri(math.MaxInt, 0, 0)), api.ErrMissing}, {mesh(three(), tri(0, math.MinInt, 0)), api.ErrMissing},
		{mesh(three(), tri(0, 2, 1)), api.ErrShape}, {mesh(three(), tri(0, 0, 1)), api.ErrShape}, {mesh(three(), tri(1, 1, 1)), api.ErrShape},
		{mesh([]api.Node{node(0, 0, 0), node(1, 1, 5), node(3, 3, 0)}, fine), api.ErrShape}, // on one line
		{mesh([]api.Node{node(0, 0, 0), node(40000, 0, 0), node(0, 20000, 0)}, fine), api.OK},
		{mesh([]api.Node{node(0, 0, 0), node(40000, 1, 0), node(-1, 20000, 0)}, fine), api.ErrLarge}, // 1 more
		{mesh([]api.Node{node(-400000, 0, 0), node(400000, 0, 0), node(far, 1000, 0)}, fine), api.OK},
		{mesh([]api.Node{node(-far, -far, 0), node(far, -far, 0), node(-far, far, 0)}, fine), api.ErrLarge},
		{mesh([]api.Node{node(-far, -far, 0), node(far, -far, 0), node(-far, far, 0)}, tri(0, 2, 1)), api.ErrShape},
		{mesh(three(), fine, tri(0, 2, 1), tri(0, 1, 3)), api.ErrShape}, // the first triangle with an error
		{mesh(three(), fine, tri(0, 1, 3), tri(0, 2, 1)), api.ErrMissing},
		{mesh([]api.Node{node(0, 0, 0), node(40000, 1, 0), node(-1, 20000, 0)}, fine, tri(0, 0, 9)), api.ErrLarge},
	} {
		same(t, bed.CheckMesh(c.m), c.want, "CheckMesh", len(c.m.Nodes), c.m.Triangles)
		if c.want != api.OK {
			allRefused(t, meshCalls(c.m), c.want, len(c.m.Nodes), c.m.Triangles)
		}
	}
	for _, n := range []api.Node{
		node(far+1, 0, 0), node(-far-1, 0, 0), node(0, far+1, 0), node(0, -far-1, 0), node(0, 0, v+1), node(0, 0, -v-1), node(0, 0, u),
		node(math.MaxInt, 0, 0), node(math.MinInt, 0, 0), node(0, math.MaxInt, 0), node(0, math.MinInt, 0), node(0, 0, math.MaxInt), node(0, 0, math.MinInt),
	} {
		allRefused(t, meshCalls(mesh([]api.Node{n})), api.ErrRange, n)
		allRefused(t, meshCalls(mesh(append(three(), n), fine)), api.ErrRange, n)
	}
}

func TestP47Triangulate(t *testing.T) {
	square := []api.Node{node(0, 0, 5), node(0, 2, 6), node(2, 0, -7), node(2, 2, 8)}
	m, e := bed.Triangulate(square)
	same(t, e, api.OK, "Triangulate")
	sameMesh(t, m, mesh(square, tri(0, 2, 3), tri(0, 3, 1)), "Triangulate")
	m, e = bed.Triangulate(three())
	same(t, e, api.OK, "Triangulate")
	sameMesh(t, m, mesh(three(), tri(0, 1, 2)), "Triangulate")
	greatest := []api.Node{node(-farthest, -farthest, highest), node(-farthest+20000, -farthest, -highest), node(-farthest, -farthest+20000, highest)}
	m, e = bed.Triangulate(greatest)
	same(t, e, api.OK, "Triangulate")
	sameMesh(t, m, mesh(greatest, tri(0, 1, 2)), "Triangulate")
	const v = highest
	for _, c := range []struct {
		l    []api.Node
		want api.Errno
	}{
		{nil, api.ErrShape}, {three()[:2], api.ErrShape}, {[]api.Node{node(0, 0, 0), node(1, 1, 5), node(3, 3, 0)}, api.ErrShape},
		{many(65), api.ErrLarge}, {append(many(64), node(0, 0, v+1)), api.ErrRange}, {append(many(64), node(farthest+1, 0, 0)), api.ErrLarge},
		{append(three(), node(0, 0, 9)), api.ErrExists}, // at one place, with another level
		{append(three(), node(0, 0, v+1)), api.ErrRange}, {append(three(), node(0, 0, -v-1)), api.ErrRange}, {append(three(), node(9, 9, u)), api.ErrRange},
		{append(three(), node(0, 0, 0), node(9, 9, v+1)), api.ErrRange}, // before the error of geometry
		{append(three(), node(farthest+1, 0, 0)), api.ErrRange}, {append(three(), node(0, math.MinInt, 0)), api.ErrRange},
		{append(three(), node(20001, 0, 0)), api.ErrLarge}, {append(three(), node(0, -20000, 0)), api.ErrLarge},
		{[]api.Node{node(0, 0, math.MaxInt)}, api.ErrRange}, {[]api.Node{node(0, 0, math.MinInt)}, api.ErrRange},
	} {
		same(t, of(bed.Triangulate(c.l)), refused(c.want), "Triangulate", c.l)
	}
	for range 2 { // what is given back is new each time
		m, e = bed.Triangulate(square)
		same(t, e, api.OK, "Triangulate")
		clear(m.Nodes)
		clear(m.Triangles)
	}
	sameList(t, square, []api.Node{node(0, 0, 5), node(0, 2, 6), node(2, 0, -7), node(2, 2, 8)}, "the nodes")
}

// nodes is from 3 to n nodes at different places.
func (s *numbers) nodes(n, most int) []api.Node {
	seen := map[api.Point]bool{}
	var out []api.Node
	for wanted := 3 + s.next(n-2); len(out) < wanted; {
		p := at(s.around(most), s.around(most))
		if !seen[p] {
			seen[p] = true
			out = append(out, node(p.X, p.Y, s.around(50)))
		}
	}
	return out
}

// placesOf is the places of nodes.
func placesOf(l []api.Node) []api.Point {
	var out []api.Point
	for _, n := range l {
		out = append(out, at(n.X, n.Y))
	}
	return out
}

func TestP47TriangulateComputed(t *testing.T) {
	s := &numbers{12}
	for range 200 {
		l := s.nodes(12, 5)
		triangles, f := geometry.Triangulate(placesOf(l))
		m, e := bed.Triangulate(l)
		same(t, e, f, "Triangulate", l)
		if f != api.OK {
			same(t, of(m, e).empty, true, "Triangulate", l)
			continue
		}
		sameMesh(t, m, mesh(l, triangles...), "Triangulate", l)
		same(t, bed.CheckMesh(m), api.OK, "CheckMesh", m)
	}
}

func TestP47MeshLevel(t *testing.T) {
	// Two triangles over each other, and one beside them that has a side in common with the second one.
	over := mesh([]api.Node{node(0, 0, 0), node(6, 0, 0), node(0, 6, 0), node(9, 0, 9), node(0, 9, 9), node(9, 9, -90)}, tri(0, 1, 2), tri(0, 3, 4), tri(4, 3, 5))
	for _, c := range []struct {
		m        api.Mesh
		p        api.Point
		num, den int
	}{
		{mesh(three(), tri(0, 1, 2)), at(1, 1), 3, 1}, {mesh(three(), tri(1, 2, 0)), at(1, 0), 2, 1}, {mesh(three(), tri(2, 0, 1)), at(0, 1), 1, 1},
		{mesh(three(), tri(0, 1, 2)), at(0, 0), 0, 1}, {mesh(three(), tri(0, 1, 2)), at(4, 0), 8, 1}, {mesh(three(), tri(0, 1, 2)), at(2, 2), 6, 1},
		{over, at(1, 1), 0, 1}, {over, at(3, 3), 0, 1}, // of the first one, border included
		{over, at(4, 3), 7, 1}, {over, at(5, 4), 9, 1}, {over, at(9, 0), 9, 1}, {over, at(6, 6), -24, 1}, {over, at(9, 9), -90, 1},
		{mesh(over.Nodes, tri(4, 3, 5), tri(0, 3, 4), tri(0, 1, 2)), at(1, 1), 2, 1},
		{mesh([]api.Node{node(0, 0, 0), node(6, 0, 1), node(0, 6, 0)}, tri(0, 1, 2)), at(2, 1), 1, 3}, // in lowest terms
		{mesh([]api.Node{node(0, 0, 0), node(6, 0, -1), node(0, 6, 0)}, tri(0, 1, 2)), at(2, 1), -1, 3},
		{mesh([]api.Node{node(0, 0, 0), node(6, 0, 1), node(0, 6, 0)}, tri(0, 1, 2)), at(0, 3), 0, 1},
		{mesh([]api.Node{node(-farthest, -farthest, highest), node(farthest, -farthest, -highest), node(-farthest, -farthest+400, highest)}, tri(0, 1, 2)), at(0, -farthest), 0, 1},
		{mesh(many(1024), tri(1021, 1022, 1023)), at(522, 1022*1022-farthest), 522, 1}, // more nodes than a triangulation has
	} {
		f, e := bed.MeshLevel(c.m, c.p)
		same(t, e, api.OK, "MeshLevel", c.p, c.m.Triangles)
		same(t, f, api.Frac{Num: c.num, Den: c.den}, "MeshLevel", c.p, c.m.Triangles)
	}
	for _, p := range []api.Point{
		at(-1, 0), at(0, -1), at(3, 2), at(5, 0), at(0, 5), at(farthest, farthest), at(-farthest, -farthest), at(farthest+1, 0), at(-farthest-1, 1), at(1, farthest+1), at(1, -farthest-1),
		at(math.MaxInt, 1), at(math.MinInt, 1), at(1, math.MaxInt), at(1, math.MinInt), at(math.MinInt, math.MinInt),
	} {
		same(t, of(bed.MeshLevel(mesh(three(), tri(0, 1, 2)), p)), refused(api.ErrNone), "MeshLevel", p)
	}
	same(t, of(bed.MeshLevel(mesh(three()), at(1, 1))), refused(api.ErrNone), "MeshLevel without triangles")
	same(t, of(bed.MeshLevel(api.Mesh{}, at(0, 0))), refused(api.ErrNone), "MeshLevel of no mesh")
}

// levelOf is the level at p of the plane through three nodes: that of the first one and how far the plane rises along both sides from there.
func levelOf(a, b, c api.Node, p api.Point) *big.Rat {
	bx, by, cx, cy, px, py := b.X-a.X, b.Y-a.Y, c.X-a.X, c.Y-a.Y, p.X-a.X, p.Y-a.Y
	// p is a and s times the side to b and r times the side to c.
	det := int64(bx*cy - by*cx)
	s, r := big.NewRat(int64(px*cy-py*cx), det), big.NewRat(int64(bx*py-by*px), det)
	s.Mul(s, big.NewRat(int64(b.Level-a.Level), 1))
	r.Mul(r, big.NewRat(int64(c.Level-a.Level), 1))
	s.Add(s, r)
	return s.Add(s, big.NewRat(int64(a.Level), 1))
}

// holds reports whether p is in a triangle that turns to the left, or on its border.
func holds(a, b, c api.Node, p api.Point) bool {
	q := placesOf([]api.Node{a, b, c})
	return geometry.Orient(q[0], q[1], p) >= 0 && geometry.Orient(q[1], q[2], p) >= 0 && geometry.Orient(q[2], q[0], p) >= 0
}

func TestP47MeshLevelComputed(t *testing.T) {
	s := &numbers{13}
	for range 300 {
		m := mesh(s.nodes(9, 12))
		for range 8 {
			x := tri(s.next(len(m.Nodes)), s.next(len(m.Nodes)), s.next(len(m.Nodes)))
			if bed.CheckMesh(mesh(m.Nodes, x)) == api.OK {
				m.Triangles = append(m.Triangles, x)
			}
		}
		for range 20 {
			p := at(s.around(13), s.around(13))
			i := slices.IndexFunc(m.Triangles, func(x api.Triangle) bool { return holds(m.Nodes[x.A], m.Nodes[x.B], m.Nodes[x.C], p) })
			if i < 0 {
				same(t, of(bed.MeshLevel(m, p)), refused(api.ErrNone), "MeshLevel", m, p)
				continue
			}
			x := m.Triangles[i]
			want := levelOf(m.Nodes[x.A], m.Nodes[x.B], m.Nodes[x.C], p)
			f, e := bed.MeshLevel(m, p)
			same(t, e, api.OK, "MeshLevel", m, p)
			same(t, f, api.Frac{Num: int(want.Num().Int64()), Den: int(want.Denom().Int64())}, "MeshLevel", m, p)
		}
	}
}

func TestP47MeshVolume(t *testing.T) {
	const v = highest
	greatest := []api.Node{node(0, 0, v), node(40000, 0, v), node(0, 20000, v)}
	for _, c := range []struct {
		m           api.Mesh
		level, want int
	}{
		{mesh(three(), tri(0, 1, 2)), 0, 192}, {mesh(three(), tri(0, 1, 2)), 4, 0}, {mesh(three(), tri(0, 1, 2)), 5, -48}, {mesh(three(), tri(1, 2, 0)), -1, 240},
		{mesh(three(), tri(0, 1, 2), tri(1, 2, 0)), 0, 384}, {mesh(three()), 7, 0}, {api.Mesh{}, v, 0},
		{mesh(greatest, slices.Repeat([]api.Triangle{tri(0, 1, 2)}, 2048)...), -v, 2048 * 800000000 * 6 * v},
		{mesh(greatest, slices.Repeat([]api.Triangle{tri(0, 1, 2)}, 2048)...), v, 0},
		{mesh([]api.Node{node(0, 0, -v), node(40000, 0, -v), node(0, 20000, -v)}, slices.Repeat([]api.Triangle{tri(0, 1, 2)}, 2048)...), v, -2048 * 800000000 * 6 * v},
		{mesh(many(1024), tri(1021, 1022, 1023)), 500, 2 * (521 + 522 + 523 - 1500)},
	} {
		got, e := bed.MeshVolume(c.m, c.level)
		same(t, e, api.OK, "MeshVolume", c.level, len(c.m.Triangles))
		same(t, got, c.want, "MeshVolume", c.level, len(c.m.Triangles))
	}
	for _, level := range []int{v + 1, -v - 1, u, math.MaxInt, math.MinInt} {
		same(t, of(bed.MeshVolume(mesh(three(), tri(0, 1, 2)), level)), refused(api.ErrRange), "MeshVolume", level)
		same(t, of(bed.MeshVolume(mesh(three(), tri(0, 2, 1)), level)), refused(api.ErrShape), "MeshVolume: the error of the mesh first", level)
	}
}

func TestP47MeshVolumeComputed(t *testing.T) {
	s := &numbers{14}
	for range 300 {
		l, level := s.nodes(10, 50), s.around(60)
		m, e := bed.Triangulate(l)
		if e != api.OK {
			continue
		}
		want := 0
		for _, x := range m.Triangles {
			a, b, c := l[x.A], l[x.B], l[x.C]
			want += geometry.Cross(at(a.X, a.Y), at(b.X, b.Y), at(c.X, c.Y)) * (a.Level + b.Level + c.Level - 3*level)
		}
		got, e := bed.MeshVolume(m, level)
		same(t, e, api.OK, "MeshVolume", l, level)
		same(t, got, want, "MeshVolume", l, level)
	}
}

func TestP47Squares(t *testing.T) {
	two := frame(0, 0, 100, 2, 2)
	centres := func(levels ...int) []api.Node {
		return []api.Node{node(50, 50, levels[0]), node(150, 50, levels[1]), node(50, 150, levels[2]), node(150, 150, levels[3])}
	}
	first, second := []api.Triangle{tri(0, 1, 3), tri(0, 3, 2)}, []api.Triangle{tri(0, 1, 2), tri(1, 3, 2)}
	for _, c := range []struct {
		levels []int
		want   []api.Triangle
	}{
		{[]int{0, 30, 60, 90}, second}, {[]int{0, 90, 30, 60}, first}, // 90 and 30; 60 and 60, which is not more
		{[]int{0, 0, 0, 0}, first}, {[]int{0, 5, 5, 1}, second}, {[]int{0, 5, 6, 1}, first}, {[]int{0, 5, 6, -1}, first}, {[]int{0, 6, 5, -2}, second},
		{[]int{5, 0, 1, 5}, first}, {[]int{5, -9, -9, -5}, second}, {[]int{-highest, highest, -highest, highest}, first}, {[]int{highest, 0, 1, -highest}, second},
		{[]int{-highest, 0, 1, highest}, second}, {[]int{0, highest, -highest, 0}, first},
	} {
		m, e := bed.Squares(with(two, c.levels...))
		same(t, e, api.OK, "Squares", c)
		sameMesh(t, m, mesh(centres(c.levels...), c.want...), "Squares", c)
	}
	m, e := bed.Squares(example())
	same(t, e, api.OK, "Squares")
	sameMesh(t, m, mesh([]api.Node{node(50, 50, -500), node(150, 50, -300), node(250, 50, -400), node(50, 150, -600), node(250, 150, -450)}), "Squares")
	for i := range 4 { // each of the four has to be known
		g := flat(two, 7)
		g.Levels[i] = u
		m, e := bed.Squares(g)
		same(t, e, api.OK, "Squares", i)
		same(t, len(m.Nodes), 3, "Squares: the nodes", i)
		same(t, len(m.Triangles), 0, "Squares: the triangles", i)
	}
	m, e = bed.Squares(flat(two, u))
	same(t, e, api.OK, "Squares")
	same(t, of(m, e).empty, true, "Squares of unknown cells")
	for _, g := range []api.Grid{flat(frame(0, 0, 100, 1024, 1), 0), flat(frame(0, 0, 100, 1, 1024), 0)} {
		m, e := bed.Squares(g)
		same(t, e, api.OK, "Squares", frameOf(g))
		same(t, len(m.Nodes), 1024, "Squares: the nodes", frameOf(g))
		same(t, len(m.Triangles), 0, "Squares: the triangles", frameOf(g))
	}
	m, e = bed.Squares(flat(frame(-farthest, -farthest, 10000, 32, 32), 5))
	same(t, e, api.OK, "Squares")
	same(t, bed.CheckMesh(m), api.OK, "CheckMesh of the greatest squares")
	same(t, len(m.Triangles), 2*31*31, "Squares: the triangles")
	same(t, m.Nodes[33], node(-farthest+15000, -farthest+15000, 5), "Squares: a node")
}

func TestP47SquaresComputed(t *testing.T) {
	s := &numbers{15}
	for range 500 {
		g := s.grid(5, 5, 4)
		var nodes []api.Node
		number := slices.Repeat([]int{-1}, len(g.Levels))
		for _, i := range known(g) {
			p, _ := bed.Centre(g, i)
			number[i] = len(nodes)
			nodes = append(nodes, node(p.X, p.Y, g.Levels[i]))
		}
		var want []api.Triangle
		for i := range g.Levels {
			c, r := i%g.Cols, i/g.Cols
			if c+1 == g.Cols || r+1 == g.Rows {
				continue
			}
			p, q, x, y := number[i], number[r*g.Cols+c+1], number[(r+1)*g.Cols+c+1], number[(r+1)*g.Cols+c]
			switch {
			case min(p, q, x, y) < 0:
			case math.Abs(float64(nodes[p].Level-nodes[x].Level)) > math.Abs(float64(nodes[q].Level-nodes[y].Level)):
				want = append(want, tri(p, q, y), tri(q, x, y))
			default:
				want = append(want, tri(p, q, x), tri(p, x, y))
			}
		}
		m, e := bed.Squares(g)
		same(t, e, api.OK, "Squares", g)
		sameMesh(t, m, mesh(nodes, want...), "Squares", g)
		same(t, bed.CheckMesh(m), api.OK, "CheckMesh of squares", g)
	}
}
