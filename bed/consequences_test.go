package bed_test

import (
	"math"
	"slices"
	"testing"

	"draghead/api"
	"draghead/bed"
	"draghead/geometry"
)

// sum is several changes together.
func sum(l []api.Change) api.Change {
	var out api.Change
	for _, c := range l {
		out.Cut += c.Cut
		out.Fill += c.Fill
		out.Unknown += c.Unknown
	}
	return out
}

func TestP49ChangesAddUp(t *testing.T) {
	s := &numbers{17}
	for range 500 {
		a := s.grid(6, 6, 40)
		b := s.again(a, 40)
		all, e := bed.Compare(a, b)
		same(t, e, api.OK, "Compare", a, b)
		strips, e := bed.Strips(a, b)
		same(t, e, api.OK, "Strips", a, b)
		same(t, sum(strips), all, "the columns together", a, b)
		levels := rising(s.next(21), s.around(40)-500)
		layers, e := bed.Slices(a, b, levels)
		same(t, e, api.OK, "Slices", a, b, levels)
		same(t, sum(layers), api.Change{Cut: all.Cut, Fill: all.Fill}, "the layers together", a, b, levels)
	}
}

func TestP49ChangesFollowEachOther(t *testing.T) {
	s := &numbers{18}
	for range 500 {
		a := s.grid(6, 6, 40)
		b, c := s.again(a, 40), s.again(a, 40)
		for i := range a.Levels { // the same cells are known in all
			if a.Levels[i] == u || b.Levels[i] == u || c.Levels[i] == u {
				a.Levels[i], b.Levels[i], c.Levels[i] = u, u, u
			}
		}
		first, _ := bed.Compare(a, b)
		second, _ := bed.Compare(b, c)
		both, e := bed.Compare(a, c)
		same(t, e, api.OK, "Compare", a, c)
		same(t, both.Cut-both.Fill, first.Cut-first.Fill+second.Cut-second.Fill, "the net cut", a, b, c)
	}
}

func TestP49CompareTurned(t *testing.T) {
	s := &numbers{19}
	for range 500 {
		a := s.grid(6, 6, 40)
		b := s.again(a, 40)
		one, _ := bed.Compare(a, b)
		other, e := bed.Compare(b, a)
		same(t, e, api.OK, "Compare", a, b)
		same(t, other, api.Change{Cut: one.Fill, Fill: one.Cut, Unknown: one.Unknown}, "Compare turned round", a, b)
	}
}

func TestP49Shoalest(t *testing.T) {
	s := &numbers{20}
	for range 500 {
		a := s.grid(6, 6, 5)
		b := s.again(a, 5)
		one, e := bed.Shoalest(a, b)
		same(t, e, api.OK, "Shoalest", a, b)
		other, e := bed.Shoalest(b, a)
		same(t, e, api.OK, "Shoalest", b, a)
		sameGrid(t, one, other, "Shoalest in the other order", a, b)
		for i, level := range one.Levels {
			for _, g := range []api.Grid{a, b} {
				same(t, g.Levels[i] == u || level != u && level >= g.Levels[i], true, "not lower than a known cell", a, b, i)
			}
			same(t, level == a.Levels[i] || level == b.Levels[i], true, "a level of one of both", a, b, i)
			same(t, level == u, a.Levels[i] == u && b.Levels[i] == u, "known if one is", a, b, i)
		}
	}
}

func TestP49ContoursAreClosed(t *testing.T) {
	s := &numbers{21}
	for range 500 {
		g, level := s.grid(7, 7, 3), s.around(4)-500
		l, _ := bed.Contour(g, level)
		more := map[api.Point]int{} // sides that begin there than that end there
		for _, side := range l {
			more[side.From]++
			more[side.To]--
		}
		for p, n := range more {
			same(t, n, 0, "as many sides begin as end", g, level, p)
		}
	}
}

// A better route, or one that is only said to be better, is not accepted.
func TestP49RoutesHaveTheLevelOfClear(t *testing.T) {
	s := &numbers{22}
	for range 300 {
		g := s.grid(5, 5, 4)
		from, to := s.cells(g, 2), s.cells(g, 2)
		r, e := bed.Clear(g, from, to)
		for _, level := range append(slices.Clone(g.Levels), -highest, highest) {
			barrier := []int{}
			for _, i := range known(g) {
				if g.Levels[i] >= level {
					barrier = append(barrier, i)
				}
			}
			for _, path := range [][]int{r.Path, from, to, {from[0], to[0]}} {
				f := bed.CheckClear(g, way(from, to, level, path, barrier))
				same(t, f == api.ErrProof || f == api.OK && e == api.OK && level == r.Level, true, "CheckClear", g, from, to, level, path)
			}
		}
	}
}

// twiceArea is twice the area of all triangles of a mesh.
func twiceArea(m api.Mesh) int {
	out := 0
	for _, x := range m.Triangles {
		p := placesOf([]api.Node{m.Nodes[x.A], m.Nodes[x.B], m.Nodes[x.C]})
		out += geometry.Cross(p[0], p[1], p[2])
	}
	return out
}

func TestP49MeshInOneLevel(t *testing.T) {
	s := &numbers{23}
	for range 300 {
		l, level, rise := s.nodes(10, 50), s.around(60), s.around(40)
		for i := range l {
			l[i].Level = level
		}
		m, e := bed.Triangulate(l)
		if e != api.OK {
			continue
		}
		v, e := bed.MeshVolume(m, level)
		same(t, e, api.OK, "MeshVolume", m, level)
		same(t, v, 0, "the net volume above its level", m, level)
		for i := range m.Nodes {
			m.Nodes[i].Level += rise
		}
		v, _ = bed.MeshVolume(m, level)
		same(t, v, 3*rise*twiceArea(m), "the net volume of what is raised", m, level, rise)
	}
}

func TestP49MeshRaised(t *testing.T) {
	s := &numbers{24}
	for range 300 {
		g, level, rise := s.grid(5, 5, 9), s.around(60), s.around(40)
		m, _ := bed.Squares(g)
		before, _ := bed.MeshVolume(m, level)
		for i := range m.Nodes {
			m.Nodes[i].Level += rise
		}
		after, e := bed.MeshVolume(m, level)
		same(t, e, api.OK, "MeshVolume", m, level)
		same(t, after-before, 3*rise*twiceArea(m), "what is raised", m, level, rise)
	}
}

func TestP49ReadBack(t *testing.T) {
	s := &numbers{25}
	for range 500 {
		g := s.grid(9, 9, 19000)
		text, e := bed.Print(g)
		same(t, e, api.OK, "Print", g)
		got, e := bed.Parse(text)
		same(t, e, api.OK, "Parse", text)
		sameGrid(t, got, g, "Parse", text)
	}
}

// wipe overwrites a list as far as its memory goes.
func wipe[T any](l []T) { clear(l[:cap(l)]) }

func wipeList[T any](l []T, _ api.Errno) { wipe(l) }

func wipeGrid(g api.Grid, _ api.Errno) { wipe(g.Levels) }

func wipeMesh(m api.Mesh, _ api.Errno) {
	wipe(m.Nodes)
	wipe(m.Triangles)
}

// roomy is a list with other elements behind its end.
func roomy[T any](l []T, behind T) []T {
	out := append(slices.Clone(l), behind, behind)
	return out[:len(l)]
}

// R3: results are overwritten here, and the arguments are what they were before.
func TestP49Memory(t *testing.T) {
	a, b := example(), later()
	a.Levels, b.Levels = roomy(a.Levels, 77), roomy(b.Levels, 78)
	cells, ends, levels := roomy([]int{3, 0, 3}, 5), roomy([]int{5, 2}, 4), roomy([]int{-450, -400}, 9)
	corners := roomy(points(0, 0, 300, 0, 300, 200), at(7, 7))
	nodes, triangles := roomy(three(), node(7, 7, 7)), roomy([]api.Triangle{tri(0, 1, 2)}, tri(7, 7, 7))
	m := api.Mesh{Nodes: nodes, Triangles: triangles}
	path, barrier := roomy([]int{3, 0, 1, 2}, 9), roomy([]int{1, 1}, 9)
	for range 2 { // what an earlier call gave back has no part in a later one
		wipeGrid(bed.Blank(a))
		wipeGrid(bed.Latest(a, b))
		wipeGrid(bed.Latest(b, a))
		wipeGrid(bed.Latest(a, a))
		wipeGrid(bed.Shoalest(a, b))
		wipeGrid(bed.Shoalest(a, a))
		wipeList(bed.Near(a, 4))
		wipeList(bed.Within(a, corners))
		wipeList(bed.Profile(a, at(0, 0), at(299, 199), 9))
		wipeList(bed.Strips(a, b))
		wipeList(bed.Slices(a, b, levels))
		wipeList(bed.Contour(a, -500))
		bed.Highest(a, cells)
		bed.Compare(a, b)
		r, e := bed.Clear(a, cells, ends)
		same(t, e, api.OK, "Clear")
		wipe(r.Path)
		same(t, len(r.Barrier) > 0 && !slices.Contains(r.Barrier, 0), true, "path and barrier share nothing")
		wipe(r.Barrier)
		same(t, bed.CheckClear(a, way(cells, ends, -300, path, barrier)), api.OK, "CheckClear")
		wipeMesh(bed.Triangulate(nodes))
		wipeMesh(bed.Squares(a))
		bed.MeshLevel(m, at(1, 1))
		bed.MeshVolume(m, 0)
		text, _ := bed.Print(a)
		wipeGrid(bed.Parse(text))
	}
	sameList(t, a.Levels[:8], append(example().Levels, 77, 77), "the levels before")
	sameList(t, b.Levels[:8], append(later().Levels, 78, 78), "the levels after")
	sameList(t, cells[:5], []int{3, 0, 3, 5, 5}, "the cells")
	sameList(t, ends[:4], []int{5, 2, 4, 4}, "the other cells")
	sameList(t, levels[:4], []int{-450, -400, 9, 9}, "the levels of the layers")
	sameList(t, corners[:5], points(0, 0, 300, 0, 300, 200, 7, 7, 7, 7), "the corners")
	sameList(t, nodes[:5], append(three(), node(7, 7, 7), node(7, 7, 7)), "the nodes")
	sameList(t, triangles[:3], []api.Triangle{tri(0, 1, 2), tri(7, 7, 7), tri(7, 7, 7)}, "the triangles")
	sameList(t, path[:6], []int{3, 0, 1, 2, 9, 9}, "the path")
	sameList(t, barrier[:4], []int{1, 1, 9, 9}, "the barrier")
}

// R5: a nil list and an empty one.
func TestP49Empty(t *testing.T) {
	none, g := []int{}, frame(0, 0, 100, 1, 1)
	for _, pair := range [][2]map[string]answer{
		{gridCalls(g), gridCalls(with(g, none...))},
		{meshCalls(api.Mesh{}), meshCalls(mesh([]api.Node{}, []api.Triangle{}...))},
		{{"Within": of(bed.Within(example(), nil))}, {"Within": of(bed.Within(example(), []api.Point{}))}},
		{{"Triangulate": of(bed.Triangulate(nil))}, {"Triangulate": of(bed.Triangulate([]api.Node{}))}},
		{{"Clear": of(bed.Clear(example(), []int{0}, nil))}, {"Clear": of(bed.Clear(example(), []int{0}, none))}},
	} {
		for name, got := range pair[0] {
			same(t, got, pair[1][name], name)
		}
	}
}

// R2 and R4: the ends of the range of int everywhere, and results that are the same again.
func TestP49AnyArguments(t *testing.T) {
	ends := []int{math.MinInt, math.MinInt + 1, -1, 0, 1, 100, math.MaxInt - 1, math.MaxInt}
	g := example()
	for _, a := range ends {
		bed.Centre(g, a)
		bed.Near(g, a)
		bed.Above(g, a)
		bed.Contour(g, a)
		bed.MeshVolume(mesh(three(), tri(0, 1, 2)), a)
		for _, b := range ends {
			bed.Cell(g, at(a, b))
			bed.Level(g, at(a, b))
			bed.Within(g, points(a, b, b, a, 0, 0))
			bed.Highest(g, []int{a, b})
			bed.Profile(g, at(a, b), at(b, a), 3)
			bed.Profile(g, at(0, 0), at(5, 5), a)
			bed.Slices(g, g, []int{a, b})
			bed.Clear(g, []int{a}, []int{b})
			bed.CheckClear(g, way([]int{0}, []int{2}, a, []int{b, a}, []int{a, b}))
			bed.CheckClear(g, way([]int{0}, []int{2}, a, []int{0, a, b, 2}, []int{1}))
			bed.CheckClear(g, way([]int{0}, []int{2}, -300, []int{0, 1, 2}, []int{a, b}))
			bed.MeshLevel(mesh(three(), tri(0, 1, 2)), at(a, b))
			for _, c := range ends {
				gridCalls(with(frame(a, b, c, 1, 1), 0))
				gridCalls(with(frame(0, 0, a, b, c), 0))
				meshCalls(mesh([]api.Node{node(a, b, c), node(c, a, b), node(b, c, a)}, tri(a, b, c), tri(0, 1, 2)))
				bed.Triangulate([]api.Node{node(a, b, c), node(c, a, b), node(b, c, a)})
			}
		}
	}
	for range 20 {
		r, _ := bed.Clear(maze(), []int{30}, []int{32*31 + 30})
		other, _ := bed.Clear(maze(), []int{30}, []int{32*31 + 30})
		sameList(t, r.Path, other.Path, "Clear again")
		sameList(t, r.Barrier, other.Barrier, "Clear again")
		one, _ := bed.Contour(maze(), -900)
		again, _ := bed.Contour(maze(), -900)
		sameList(t, one, again, "Contour again")
	}
}
