package cut

import (
	"slices"

	"draghead/api"
	"draghead/bed"
	"draghead/soil"
)

// Safe returns the cells that have a point in common with a zone, ascending (P7.6).
func Safe(s api.Site, zone string) ([]int, api.Errno) {
	if e := CheckSite(s); e != api.OK {
		return nil, e
	}
	k := slices.IndexFunc(s.Zones, func(z api.Region) bool { return z.Name == zone })
	if k < 0 {
		return nil, api.ErrMissing
	}
	var out []int
	for i := range s.Bed.Levels {
		if touches(s.Bed, i, s.Zones[k]) {
			out = append(out, i)
		}
	}
	return out, api.OK
}

// Greatest returns the lowest level to which a cell may be lowered alone, as far as zones, quays and slopes are concerned.
func Greatest(s api.Site, cell int) (int, api.Errno) {
	if e := CheckSite(s); e != api.OK {
		return 0, e
	}
	if !within(cell, 0, len(s.Bed.Levels)-1) {
		return 0, api.ErrMissing
	}
	if !isKnown(s.Bed, cell) {
		return 0, api.ErrUnknown
	}
	own := s.Bed.Levels[cell]
	if fieldOf(s).isProtected(cell) {
		return own, api.OK
	}
	return min(own, max(-api.MaxLevel, highestWedge(s, cell), highestSlope(s, cell))), api.OK
}

// highestWedge returns the greatest one of the wedges of all quays at a cell, or the lowest level if there are none.
func highestWedge(s api.Site, cell int) int {
	out := -api.MaxLevel
	for _, q := range s.Quays {
		// The quay and the bed are checked: there is no error.
		if wedge, _ := soil.Wedge(q, s.Bed); isKnown(wedge, cell) {
			out = max(out, wedge.Levels[cell])
		}
	}
	return out
}

// highestSlope returns the lowest level at which no known neighbour of a cell is too high for it, or the lowest level of all if this is less.
func highestSlope(s api.Site, cell int) int {
	out := -api.MaxLevel
	// The ground, the bed and the cells are there without errors.
	near, _ := bed.Near(s.Bed, cell)
	for _, i := range near {
		if isKnown(s.Bed, i) {
			allowed, _ := soil.Allowed(s.Ground, s.Bed, cell, i)
			out = max(out, s.Bed.Levels[i]-allowed)
		}
	}
	return out
}
