package channel

import (
	"draghead/api"
	"draghead/bed"
	"draghead/geometry"
)

// Quantities returns what each section holds of the cells with a design level (P5.6).
func Quantities(c api.Channel, g api.Grid) ([]api.Quantity, api.Errno) {
	if e := checkBed(c, g); e != api.OK {
		return nil, e
	}
	levels := designs(c, g)
	var out []api.Quantity
	for _, r := range c.Regions {
		if r.Kind == api.RegionSection {
			out = append(out, quantity(r, c.Over, g, designsWithin(r, g, levels)))
		}
	}
	return out, api.OK
}

// Buffer reports whether a place is inside of a region or within a distance of it.
func Buffer(r api.Region, distance int, p api.Point) (bool, api.Errno) {
	if e := checkRegion(nil, r); e != api.OK {
		return false, e
	}
	return geometry.Near(r.Corners, p, distance)
}

// Protected returns the protected cells, ascending.
func Protected(c api.Channel, g api.Grid) ([]int, api.Errno) {
	if e := checkBed(c, g); e != api.OK {
		return nil, e
	}
	var out []int
	for i, p := range centres(g) {
		if isProtected(c, g, i, p) {
			out = append(out, i)
		}
	}
	return out, api.OK
}

// designsWithin returns the design levels of the cells of a region, and none elsewhere.
func designsWithin(r api.Region, g api.Grid, designs []int) []int {
	out := make([]int, len(designs))
	for i := range out {
		out[i] = none
	}
	// The grid and the region are checked: there is no error.
	cells, _ := bed.Within(g, r.Corners)
	for _, i := range cells {
		out[i] = designs[i]
	}
	return out
}

// quantity returns what the cells hold that have a design level.
func quantity(r api.Region, over int, g api.Grid, designs []int) api.Quantity {
	out := api.Quantity{
		Region:    r.Name,
		Design:    volume(designs, g, g, above(0)),
		Tolerance: volume(designs, g, g, above(over)),
	}
	for i, design := range designs {
		switch {
		case design == none:
		case isKnown(g, i):
			out.Cells++
		default:
			out.Unknown++
		}
	}
	return out
}

// isProtected reports whether a region protects the cell i with its centre p.
func isProtected(c api.Channel, g api.Grid, i int, p api.Point) bool {
	low, high := square(g, i)
	for _, r := range c.Regions {
		if r.Kind == api.RegionSection {
			continue
		}
		// The region is checked, and the whole grid is in range: there is no error.
		isNear, _ := geometry.Near(r.Corners, p, c.Buffer)
		if isNear {
			return true
		}
		touches, _ := geometry.Touches(r.Corners, low, high)
		if touches {
			return true
		}
	}
	return false
}

// square returns the lower left and the upper right corner of a cell.
func square(g api.Grid, i int) (low, high api.Point) {
	low = api.Point{X: g.X + i%g.Cols*g.Side, Y: g.Y + i/g.Cols*g.Side}
	return low, api.Point{X: low.X + g.Side, Y: low.Y + g.Side}
}
