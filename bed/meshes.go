package bed

import (
	"slices"

	"draghead/api"
	"draghead/geometry"
)

const (
	mostTriangles = 2 * api.MaxCells
	mostTwice     = 2 * api.MaxPatch * api.MaxPatch // twice the area of the greatest triangle
)

// Triangulate returns the mesh of the nodes with the triangulation of their places (P4.7).
func Triangulate(l []api.Node) (api.Mesh, api.Errno) {
	for _, n := range l {
		if e := checkLevel(n.Level); e != api.OK {
			return api.Mesh{}, e
		}
	}
	triangles, e := geometry.Triangulate(placesOf(l))
	if e != api.OK {
		return api.Mesh{}, e
	}
	return api.Mesh{Nodes: slices.Clone(l), Triangles: triangles}, api.OK
}

// CheckMesh returns what is wrong with a mesh.
func CheckMesh(m api.Mesh) api.Errno {
	if len(m.Nodes) > api.MaxCells || len(m.Triangles) > mostTriangles {
		return api.ErrLarge
	}
	for _, n := range m.Nodes {
		if !isPlace(n.X, n.Y) || !isLevel(n.Level) {
			return api.ErrRange
		}
	}
	for _, t := range m.Triangles {
		if e := checkTriangle(m, t); e != api.OK {
			return e
		}
	}
	return api.OK
}

// MeshLevel returns the level at a place in the first triangle that contains it.
func MeshLevel(m api.Mesh, p api.Point) (api.Frac, api.Errno) {
	if e := CheckMesh(m); e != api.OK {
		return api.Frac{}, e
	}
	for _, t := range m.Triangles {
		nodes := nodesOf(m, t)
		// The error of a place that is not in range means here too that it is not in the triangle.
		if _, e := geometry.Locate(placesOf(nodes), []api.Triangle{alone()}, p); e == api.OK {
			return geometry.Level(nodes, alone(), p)
		}
	}
	return api.Frac{}, api.ErrNone
}

// MeshVolume returns the net volume of a mesh above a level, in sixths of a cubic centimetre.
func MeshVolume(m api.Mesh, level int) (int, api.Errno) {
	if e := CheckMesh(m); e != api.OK {
		return 0, e
	}
	if e := checkLevel(level); e != api.OK {
		return 0, e
	}
	sum := 0
	for _, t := range m.Triangles {
		// The mesh and the level are checked: there is no error.
		volume, _ := geometry.Prism(nodesOf(m, t), alone(), level)
		sum += volume
	}
	return sum, api.OK
}

// Squares returns the mesh whose nodes are the centres of the known cells, with two triangles for each square of four.
func Squares(g api.Grid) (api.Mesh, api.Errno) {
	if e := Check(g); e != api.OK {
		return api.Mesh{}, e
	}
	var m api.Mesh
	nodes := map[int]int{} // the number of the node of each known cell
	for i, level := range g.Levels {
		if isKnown(g, i) {
			p := centre(g, i)
			nodes[i] = len(m.Nodes)
			m.Nodes = append(m.Nodes, api.Node{X: p.X, Y: p.Y, Level: level})
		}
	}
	for row := range g.Rows - 1 {
		for col := range g.Cols - 1 {
			m.Triangles = append(m.Triangles, halves(g, nodes, row*g.Cols+col)...)
		}
	}
	return m, api.OK
}

// halves returns the two triangles of the square whose first cell is i; none if one of its cells is not known.
func halves(g api.Grid, nodes map[int]int, i int) []api.Triangle {
	right, across, above := i+1, i+g.Cols+1, i+g.Cols
	for _, k := range [4]int{i, right, across, above} {
		if !isKnown(g, k) {
			return nil
		}
	}
	p, q, s, t := nodes[i], nodes[right], nodes[across], nodes[above]
	if apart(g, i, across) <= apart(g, right, above) {
		return []api.Triangle{{A: p, B: q, C: s}, {A: p, B: s, C: t}}
	}
	return []api.Triangle{{A: p, B: q, C: t}, {A: q, B: s, C: t}}
}

// apart returns by how much the levels of two cells differ.
func apart(g api.Grid, i, j int) int {
	d := g.Levels[i] - g.Levels[j]
	return max(d, -d)
}

// checkTriangle relies on the nodes being valid.
func checkTriangle(m api.Mesh, t api.Triangle) api.Errno {
	for _, n := range [3]int{t.A, t.B, t.C} {
		if !within(n, 0, len(m.Nodes)-1) {
			return api.ErrMissing
		}
	}
	l := placesOf(nodesOf(m, t))
	twice := geometry.Cross(l[0], l[1], l[2])
	if twice <= 0 {
		return api.ErrShape
	}
	if twice > mostTwice {
		return api.ErrLarge
	}
	return api.OK
}

// nodesOf returns the three nodes of a triangle: package geometry takes fewer nodes at once than a mesh may have.
func nodesOf(m api.Mesh, t api.Triangle) []api.Node {
	return []api.Node{m.Nodes[t.A], m.Nodes[t.B], m.Nodes[t.C]}
}

// alone is the triangle of three nodes that stand in a list by themselves.
func alone() api.Triangle {
	return api.Triangle{A: 0, B: 1, C: 2}
}

func placesOf(l []api.Node) []api.Point {
	out := make([]api.Point, 0, len(l))
	for _, n := range l {
		out = append(out, api.Point{X: n.X, Y: n.Y})
	}
	return out
}
