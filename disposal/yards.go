// Package disposal is chapter 9: batches of spoil and their bulking, pits, and the assignment of batches to pits, with proofs that it is the cheapest one, or that there is none.
package disposal

import (
	"slices"

	"draghead/api"
)

const (
	mostArea    = 1000000000 // square centimetres
	mostPrice   = 10000      // cents for each cubic metre
	mostClass   = 9
	mostFactors = 20
	mostDen     = 1000
	mostTimes   = 10              // the dredged volume by that in the bed
	mostDeposit = 100000000000000 // cubic centimetres
)

// Check returns what is wrong with a yard (P9.1).
func Check(s api.Yard) api.Errno {
	if e := checkPits(s.Pits); e != api.OK {
		return e
	}
	if e := checkBulking(s.Bulking); e != api.OK {
		return e
	}
	if e := checkCarry(s); e != api.OK {
		return e
	}
	if e := checkDeposits(s); e != api.OK {
		return e
	}
	return checkRooms(s)
}

// New returns the yard with these pits and bulking factors, and nothing in it.
func New(pits []api.Pit, bulking []api.Bulking) (api.Yard, api.Errno) {
	s := api.Yard{Pits: pits, Bulking: bulking, Carry: make([]int, len(bulking))}
	if e := Check(s); e != api.OK {
		return api.Yard{}, e
	}
	return copyOf(s), api.OK
}

// copyOf returns a yard that shares no memory with this one.
func copyOf(s api.Yard) api.Yard {
	out := api.Yard{Pits: slices.Clone(s.Pits), Bulking: slices.Clone(s.Bulking), Carry: slices.Clone(s.Carry)}
	for k, p := range s.Pits {
		out.Pits[k].Classes = slices.Clone(p.Classes)
	}
	out.Deposits = make([]api.Deposit, len(s.Deposits))
	copy(out.Deposits, s.Deposits)
	return out
}

func checkPits(l []api.Pit) api.Errno {
	if len(l) > api.MaxPits {
		return api.ErrLarge
	}
	name := func(p api.Pit) string { return p.Name }
	return checkList(l, name, func(p api.Pit) api.Errno { return checkName(p.Name) }, checkPit)
}

func checkBulking(l []api.Bulking) api.Errno {
	if len(l) > mostFactors {
		return api.ErrLarge
	}
	soil := func(f api.Bulking) string { return f.Soil }
	return checkList(l, soil, func(f api.Bulking) api.Errno { return checkName(f.Soil) }, checkFactor)
}

func checkCarry(s api.Yard) api.Errno {
	if len(s.Carry) != len(s.Bulking) {
		return api.ErrShape
	}
	for k, f := range s.Bulking {
		if !within(s.Carry[k], 0, f.Factor.Den-1) {
			return api.ErrRange
		}
	}
	return api.OK
}

func checkDeposits(s api.Yard) api.Errno {
	if len(s.Deposits) > api.MaxDeposits {
		return api.ErrLarge
	}
	batch := func(d api.Deposit) int { return d.Batch }
	return checkList(s.Deposits, batch, func(d api.Deposit) api.Errno { return checkNumber(d.Batch) }, func(d api.Deposit) api.Errno {
		if pitOf(s, d.Pit) < 0 {
			return api.ErrMissing
		}
		if !within(d.Volume, 0, mostDeposit) {
			return api.ErrRange
		}
		return api.OK
	})
}

func checkRooms(s api.Yard) api.Errno {
	for _, p := range s.Pits {
		if room(s, p) < 0 {
			return api.ErrCapacity
		}
	}
	return api.OK
}

// checkList returns what is wrong with a list in which no two elements have one name or number: of an element what is wrong before it is compared with the earlier ones, and what is wrong behind that.
func checkList[T any, K comparable](l []T, key func(T) K, before, behind func(T) api.Errno) api.Errno {
	earlier := map[K]bool{}
	for _, x := range l {
		if e := before(x); e != api.OK {
			return e
		}
		if earlier[key(x)] {
			return api.ErrExists
		}
		earlier[key(x)] = true
		if e := behind(x); e != api.OK {
			return e
		}
	}
	return api.OK
}

// checkPit returns what is wrong with a pit beside its name.
func checkPit(p api.Pit) api.Errno {
	if !within(p.Area, 1, mostArea) || !isLevel(p.Base) || !isLevel(p.Top) {
		return api.ErrRange
	}
	if p.Top <= p.Base {
		return api.ErrOrder
	}
	if !within(p.Price, 0, mostPrice) {
		return api.ErrRange
	}
	return checkClasses(p.Classes)
}

func checkClasses(l []int) api.Errno {
	for i, class := range l {
		if !isClass(class) {
			return api.ErrRange
		}
		if i > 0 && class <= l[i-1] {
			return api.ErrOrder
		}
	}
	return api.OK
}

// checkFactor returns what is wrong with a bulking factor beside its soil.
func checkFactor(f api.Bulking) api.Errno {
	if !within(f.Factor.Den, 1, mostDen) || !within(f.Factor.Num, 1, mostTimes*f.Factor.Den) {
		return api.ErrRange
	}
	return api.OK
}

func checkNumber(n int) api.Errno {
	if !within(n, 1, api.MaxNumber) {
		return api.ErrRange
	}
	return api.OK
}

func checkName(s string) api.Errno {
	if !isName(s) {
		return api.ErrName
	}
	return api.OK
}

func isLevel(n int) bool {
	return within(n, -api.MaxLevel, api.MaxLevel)
}

func isClass(n int) bool {
	return within(n, 0, mostClass)
}

func within(n, least, most int) bool {
	return least <= n && n <= most
}

func isName(s string) bool {
	if len(s) == 0 || len(s) > api.MaxName || !isLetter(s[0]) {
		return false
	}
	for i := range len(s) {
		if c := s[i]; !isLetter(c) && !isDigit(c) && c != '-' {
			return false
		}
	}
	return true
}

func isLetter(c byte) bool {
	return 'A' <= c && c <= 'Z' || 'a' <= c && c <= 'z'
}

func isDigit(c byte) bool {
	return '0' <= c && c <= '9'
}
