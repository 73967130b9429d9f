package channel

import "draghead/api"

// height is what a cell adds to a volume, for each unit of its area, by its levels; nothing if it is negative.
type height func(design, before, after int) int

// Needed returns the volume that lies above the design (P5.5).
func Needed(c api.Channel, bed api.Grid) (int, api.Errno) {
	if e := checkBed(c, bed); e != api.OK {
		return 0, e
	}
	return volume(designs(c, bed), bed, bed, above(0)), api.OK
}

// Open returns the known cells that are higher than their design level, ascending.
func Open(c api.Channel, bed api.Grid) ([]int, api.Errno) {
	if e := checkBed(c, bed); e != api.OK {
		return nil, e
	}
	var out []int
	for i, design := range designs(c, bed) {
		if isKnown(bed, i) && bed.Levels[i] > design {
			out = append(out, i)
		}
	}
	return out, api.OK
}

// Paid returns the volume that was above the tolerance and is missing.
func Paid(c api.Channel, before, after api.Grid) (int, api.Errno) {
	return missing(c, before, after, func(design, from, to int) int { return from - max(to, design-c.Over) })
}

// Overcut returns the volume that was below the tolerance and is missing.
func Overcut(c api.Channel, before, after api.Grid) (int, api.Errno) {
	return missing(c, before, after, func(design, from, to int) int { return min(from, design-c.Over) - to })
}

// missing returns a volume of what was taken between two surveys.
func missing(c api.Channel, before, after api.Grid, part height) (int, api.Errno) {
	if e := checkBeds(c, before, after); e != api.OK {
		return 0, e
	}
	return volume(designs(c, before), before, after, part), api.OK
}

// above returns what lies above the line that is so much lower than the design.
func above(lower int) height {
	return func(design, level, _ int) int { return level - (design - lower) }
}

// volume returns what the cells add that have a design level and are known in both surveys.
func volume(designs []int, before, after api.Grid, part height) int {
	sum := 0
	for i, design := range designs {
		if design != none && isKnown(before, i) && isKnown(after, i) {
			sum += max(0, part(design, before.Levels[i], after.Levels[i]))
		}
	}
	return before.Side * before.Side * sum
}
