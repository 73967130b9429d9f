package cut

import (
	"slices"

	"draghead/api"
	"draghead/bed"
	"draghead/geometry"
	"draghead/tide"
)

// field is a site without errors, with what was found out about it in one call: this does not change with its bed.
type field struct {
	api.Site
	first     api.Point      // the centre of the cell 0
	protected map[int]bool   // whether a cell touches a zone
	waters    map[look]water // the water where and when it was asked for
}

// look asks for the water at an X in a window.
type look struct {
	x      int
	window api.Window
}

// water is its highest level, or ErrNone if it is unknown.
type water struct {
	high int
	e    api.Errno
}

func fieldOf(s api.Site) field {
	// The bed is checked, and each one has this cell: there is no error.
	first, _ := bed.Centre(s.Bed, 0)
	return field{s, first, map[int]bool{}, map[look]water{}}
}

// centre returns the centre of a cell.
func (f field) centre(i int) api.Point {
	return api.Point{X: f.first.X + i%f.Bed.Cols*f.Bed.Side, Y: f.first.Y + i/f.Bed.Cols*f.Bed.Side}
}

// isProtected reports whether a cell has a point in common with a zone.
func (f field) isProtected(i int) bool {
	return remember(f.protected, i, func() bool {
		return slices.ContainsFunc(f.Zones, func(z api.Region) bool { return touches(f.Bed, i, z) })
	})
}

// waterAt returns the water at an X in a window that may be looked at.
func (f field) waterAt(x int, w api.Window) water {
	return remember(f.waters, look{x, w}, func() water {
		v, e := tide.Span(f.Gauges, x, w)
		return water{v.Hi, e}
	})
}

// remember returns what m has for a key; it is looked for only once.
func remember[K comparable, V any](m map[K]V, key K, find func() V) V {
	v, is := m[key]
	if !is {
		v = find()
		m[key] = v
	}
	return v
}

// touches reports whether a cell of the grid has a point in common with a zone, its border included.
func touches(m api.Grid, i int, z api.Region) bool {
	low := api.Point{X: m.X + i%m.Cols*m.Side, Y: m.Y + i/m.Cols*m.Side}
	// The zone and the grid are checked: there is no error.
	yes, _ := geometry.Touches(z.Corners, low, api.Point{X: low.X + m.Side, Y: low.Y + m.Side})
	return yes
}

// isKnown reports whether somebody has sounded a cell of the grid.
func isKnown(m api.Grid, i int) bool {
	return m.Levels[i] != api.Unknown
}
