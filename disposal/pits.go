package disposal

import (
	"slices"

	"draghead/api"
)

// Taken returns what a pit has taken (P9.3).
func Taken(s api.Yard, pit string) (int, api.Errno) {
	p, e := checkedPit(s, pit)
	if e != api.OK {
		return 0, e
	}
	return taken(s, p), api.OK
}

// Room returns what a pit can still take.
func Room(s api.Yard, pit string) (int, api.Errno) {
	p, e := checkedPit(s, pit)
	if e != api.OK {
		return 0, e
	}
	return room(s, p), api.OK
}

// Level returns the level up to which a pit is filled.
func Level(s api.Yard, pit string) (int, api.Errno) {
	p, e := checkedPit(s, pit)
	if e != api.OK {
		return 0, e
	}
	return p.Base + up(taken(s, p), p.Area), api.OK
}

// Layers returns the deposits of a pit.
func Layers(s api.Yard, pit string) ([]api.Deposit, api.Errno) {
	p, e := checkedPit(s, pit)
	if e != api.OK {
		return nil, e
	}
	return layers(s, p), api.OK
}

// checkedPit returns a pit, or what is wrong with the yard or the name.
func checkedPit(s api.Yard, pit string) (api.Pit, api.Errno) {
	if e := Check(s); e != api.OK {
		return api.Pit{}, e
	}
	k := pitOf(s, pit)
	if k < 0 {
		return api.Pit{}, api.ErrMissing
	}
	return s.Pits[k], api.OK
}

// pitOf returns the index of a pit, or -1.
func pitOf(s api.Yard, pit string) int {
	return slices.IndexFunc(s.Pits, func(p api.Pit) bool { return p.Name == pit })
}

func layers(s api.Yard, p api.Pit) []api.Deposit {
	var out []api.Deposit
	for _, d := range s.Deposits {
		if d.Pit == p.Name {
			out = append(out, d)
		}
	}
	return out
}

func taken(s api.Yard, p api.Pit) int {
	sum := 0
	for _, d := range layers(s, p) {
		sum += d.Volume
	}
	return sum
}

func room(s api.Yard, p api.Pit) int {
	return p.Area*(p.Top-p.Base) - taken(s, p)
}

// up is a quotient of numbers that are not negative, rounded up.
func up(n, by int) int {
	return (n + by - 1) / by
}
