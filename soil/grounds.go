// Package soil is chapter 6: which soil lies where, the slopes at which beds stand and slump, quays, amounts that are dredged, and classes of samples.
package soil

import (
	"slices"

	"draghead/api"
	"draghead/geometry"
)

const (
	mostDensity = 5000 // kilograms in a cubic metre
	mostBulk    = 1000
)

// inspection is a ground that is checked.
type inspection struct{ api.Ground }

// CheckSoils returns what is wrong with a list of soils (P6.1).
func CheckSoils(l []api.Soil) api.Errno {
	return inspection{api.Ground{Soils: l}}.checkSoils()
}

// CheckGround returns what is wrong with a ground.
func CheckGround(g api.Ground) api.Errno {
	if e := CheckSoils(g.Soils); e != api.OK {
		return e
	}
	return inspection{g}.checkBorings()
}

func (c inspection) checkSoils() api.Errno {
	if e := checkCount(len(c.Soils), api.MaxSoils); e != api.OK {
		return e
	}
	return checkNamed(c.Soils, func(s api.Soil) []string { return []string{s.Name} }, c.checkSoil)
}

func (c inspection) checkBorings() api.Errno {
	if e := checkCount(len(c.Borings), api.MaxBorings); e != api.OK {
		return e
	}
	return checkNamed(c.Borings, func(b api.Boring) []string { return []string{b.Name} }, c.checkBoring)
}

func (c inspection) checkSoil(s api.Soil) api.Errno {
	if !within(s.Run, 1, api.MaxRun) || !within(s.Density, 1, mostDensity) || !isBulk(s.Bulk) {
		return api.ErrRange
	}
	return api.OK
}

func (c inspection) checkBoring(b api.Boring) api.Errno {
	if !isPlace(api.Point{X: b.X, Y: b.Y}) {
		return api.ErrRange
	}
	if e := checkCount(len(b.Layers), api.MaxLayers); e != api.OK {
		return e
	}
	for i := range b.Layers {
		if e := c.checkLayer(b.Layers[:i], b.Layers[i]); e != api.OK {
			return e
		}
	}
	return api.OK
}

// checkLayer returns what is wrong with a layer that lies below others.
func (c inspection) checkLayer(above []api.Layer, l api.Layer) api.Errno {
	if !isLevel(l.Top) {
		return api.ErrRange
	}
	if n := len(above); n > 0 && l.Top >= above[n-1].Top {
		return api.ErrOrder
	}
	if !slices.ContainsFunc(c.Soils, func(s api.Soil) bool { return s.Name == l.Soil }) {
		return api.ErrMissing
	}
	return api.OK
}

// checkNamed returns what is wrong with a list whose elements have names: the first one is its own, which no earlier element has; check tells what else is wrong with an element.
func checkNamed[T any](l []T, names func(T) []string, check func(T) api.Errno) api.Errno {
	earlier := map[string]bool{}
	for _, x := range l {
		all := names(x)
		if slices.ContainsFunc(all, isNoName) {
			return api.ErrName
		}
		if earlier[all[0]] {
			return api.ErrExists
		}
		earlier[all[0]] = true
		if e := check(x); e != api.OK {
			return e
		}
	}
	return api.OK
}

// checkCount returns what is wrong with the length of a list that must not be empty.
func checkCount(n, most int) api.Errno {
	if n == 0 {
		return api.ErrShape
	}
	if n > most {
		return api.ErrLarge
	}
	return api.OK
}

func isBulk(f api.Frac) bool {
	return within(f.Num, 1, mostBulk) && within(f.Den, 1, mostBulk) && f.Num >= f.Den
}

// isPlace reports whether a point is in range.
func isPlace(p api.Point) bool {
	return geometry.Check([]api.Point{p}) == api.OK
}

func isLevel(level int) bool {
	return within(level, -api.MaxLevel, api.MaxLevel)
}

func within(n, least, most int) bool {
	return least <= n && n <= most
}

func isNoName(s string) bool {
	return !isName(s)
}

func isName(s string) bool {
	if len(s) == 0 || len(s) > api.MaxName || !isLetter(s[0]) {
		return false
	}
	for i := range len(s) {
		if c := s[i]; !isLetter(c) && !isDigit(c) && c != '-' {
			return false
		}
	}
	return true
}

func isLetter(c byte) bool {
	return 'A' <= c && c <= 'Z' || 'a' <= c && c <= 'z'
}

func isDigit(c byte) bool {
	return '0' <= c && c <= '9'
}
