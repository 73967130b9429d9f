// Package trip is chapter 8: hoppers, fairways, trips over the tide and proofs that there is none, timetables, and rounds.
package trip

import "draghead/api"

const (
	mostHold   = 1000000000000 // cubic centimetres
	mostMass   = 1000000000    // kilograms
	leastLines = 2
)

// CheckHopper returns what is wrong with a hopper (P8.1).
func CheckHopper(h api.Hopper) api.Errno {
	switch {
	case !isName(h.Name):
		return api.ErrName
	case !within(h.Hold, 1, mostHold):
		return api.ErrRange
	case len(h.Lines) < leastLines:
		return api.ErrShape
	case len(h.Lines) > api.MaxLines:
		return api.ErrLarge
	}
	return checkLines(h.Lines)
}

// Draught returns the draught of a load.
func Draught(h api.Hopper, mass int) (int, api.Errno) {
	if e := CheckHopper(h); e != api.OK {
		return 0, e
	}
	least, most := masses(h)
	if !within(mass, least, most) {
		return 0, api.ErrRange
	}
	return draughtOf(h, mass), api.OK
}

// MassAt returns the greatest mass that draws at most a draught.
func MassAt(h api.Hopper, draught int) (int, api.Errno) {
	if e := CheckHopper(h); e != api.OK {
		return 0, e
	}
	if !isDraught(draught) {
		return 0, api.ErrRange
	}
	least, most := masses(h)
	mass, is := greatest(least, most, func(mass int) bool { return draughtOf(h, mass) <= draught })
	if !is {
		return 0, api.ErrNone
	}
	return mass, api.OK
}

func checkLines(l []api.LoadLine) api.Errno {
	for i, x := range l {
		if !within(x.Mass, 0, mostMass) || !isDraught(x.Draught) {
			return api.ErrRange
		}
		if i > 0 && (x.Mass <= l[i-1].Mass || x.Draught < l[i-1].Draught) {
			return api.ErrOrder
		}
	}
	return api.OK
}

// masses returns the masses of the first line and of the last one.
func masses(h api.Hopper) (int, int) {
	return h.Lines[0].Mass, h.Lines[len(h.Lines)-1].Mass
}

// draughtOf returns the draught of a load within the lines.
func draughtOf(h api.Hopper, mass int) int {
	i := 1
	for h.Lines[i].Mass < mass {
		i++
	}
	a, b := h.Lines[i-1], h.Lines[i]
	return a.Draught + up((b.Draught-a.Draught)*(mass-a.Mass), b.Mass-a.Mass)
}

// up is a quotient of numbers that are not negative, rounded up.
func up(n, by int) int {
	return (n + by - 1) / by
}

// greatest returns the greatest number from least to most that is good, and whether there is one: whatever is less than a good one is good.
func greatest(least, most int, good func(n int) bool) (int, bool) {
	if !good(least) {
		return 0, false
	}
	for least < most {
		if middle := (least + most + 1) / 2; good(middle) {
			least = middle
		} else {
			most = middle - 1
		}
	}
	return least, true
}

func isDraught(n int) bool {
	return within(n, 0, api.MaxDraught)
}

func isMinute(n int) bool {
	return within(n, 0, api.MaxMinute)
}

func within(n, least, most int) bool {
	return least <= n && n <= most
}

func isName(s string) bool {
	if len(s) == 0 || len(s) > api.MaxName || !isLetter(s[0]) {
		return false
	}
	for i := range len(s) {
		if c := s[i]; !isLetter(c) && !isDigit(c) && c != '-' {
			return false
		}
	}
	return true
}

func isLetter(c byte) bool {
	return 'A' <= c && c <= 'Z' || 'a' <= c && c <= 'z'
}

func isDigit(c byte) bool {
	return '0' <= c && c <= '9'
}
