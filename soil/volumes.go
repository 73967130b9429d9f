package soil

import "draghead/api"

// Shares returns how much of each soil is missing after a cut (P6.3).
func Shares(g api.Ground, before, after api.Grid) ([]api.Share, api.Errno) {
	if e := checkBeds(g, before, after); e != api.OK {
		return nil, e
	}
	heights := missing(g, before, after)
	out := make([]api.Share, len(g.Soils))
	for k, s := range g.Soils {
		out[k] = api.Share{Soil: s.Name, Volume: heights[s.Name] * area(before)}
	}
	return out, api.OK
}

// missing returns, for each soil, the heights together that all cells have lost of it.
func missing(g api.Ground, before, after api.Grid) map[string]int {
	out := map[string]int{}
	for i, p := range centres(before) {
		if !isKnown(before, i) || !isKnown(after, i) {
			continue
		}
		// Where a cell is not lower the column has no parts.
		for _, part := range column(layersAt(g, p), before.Levels[i], after.Levels[i]) {
			out[part.Soil] += part.Top - part.Bottom
		}
	}
	return out
}
