package soil

import (
	"draghead/api"
	"draghead/bed"
	"draghead/geometry"
)

// CheckQuay returns what is wrong with a quay (P6.6).
func CheckQuay(q api.Quay) api.Errno {
	if !isName(q.Name) {
		return api.ErrName
	}
	if !isPlace(q.A) || !isPlace(q.B) || !isLevel(q.Level) || !within(q.Run, 1, api.MaxRun) {
		return api.ErrRange
	}
	if q.A == q.B {
		return api.ErrForm
	}
	return api.OK
}

// Wedge returns the grid with the same cells whose levels are the wedge in front of a quay, Unknown where there is none.
func Wedge(q api.Quay, m api.Grid) (api.Grid, api.Errno) {
	if e := checkFront(q, m); e != api.OK {
		return api.Grid{}, e
	}
	return withLevels(m, wedges(q, m)), api.OK
}

// Undermined returns the known cells that are lower than the wedge, ascending.
func Undermined(q api.Quay, m api.Grid) ([]int, api.Errno) {
	if e := checkFront(q, m); e != api.OK {
		return nil, e
	}
	var out []int
	for i, wedge := range wedges(q, m) {
		if isKnown(m, i) && wedge != api.Unknown && m.Levels[i] < wedge {
			out = append(out, i)
		}
	}
	return out, api.OK
}

// checkFront returns what is wrong with a quay, or with a grid in front of it.
func checkFront(q api.Quay, m api.Grid) api.Errno {
	if e := CheckQuay(q); e != api.OK {
		return e
	}
	return bed.Check(m)
}

func wedges(q api.Quay, m api.Grid) []int {
	out := make([]int, len(m.Levels))
	for i, p := range centres(m) {
		out[i] = wedgeAt(q, p)
	}
	return out
}

// wedgeAt returns the wedge at a place that is in range, or Unknown if there is none.
func wedgeAt(q api.Quay, p api.Point) int {
	if geometry.Orient(q.A, q.B, p) < 0 {
		return api.Unknown
	}
	// The quay is checked: there is no error.
	along, _ := geometry.Along(q.A, q.B, p)
	offset, _ := geometry.Offset(q.A, q.B, p)
	level := q.Level - tenths*offset/q.Run
	if !within(along, 0, geometry.Span(q.A, q.B)) || level < -api.MaxLevel {
		return api.Unknown
	}
	return level
}
