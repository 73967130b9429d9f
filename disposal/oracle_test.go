package disposal_test

import (
	"math"
	"math/big"
	"slices"

	"draghead/api"
)

// yard is a yard with a few pits and what may lie in them.
func (s *numbers) yard() api.Yard {
	var y api.Yard
	for k := range s.next(api.MaxPits + 1) {
		y.Pits = append(y.Pits, s.pit(letter(k)))
	}
	for k := range 1 + s.next(3) {
		den := 1 + s.next(5)
		y.Bulking = append(y.Bulking, factor("s"+letter(k), 1+s.next(2*den), den))
		y.Carry = append(y.Carry, s.next(den))
	}
	for k := range s.next(6) {
		if len(y.Pits) > 0 {
			p := y.Pits[s.next(len(y.Pits))]
			y.Deposits = append(y.Deposits, deposit(100+k, p.Name, s.next(1+roomOf(y, p.Name))))
		}
	}
	return y
}

// pit is a pit with a small capacity, and few classes and prices.
func (s *numbers) pit(name string) api.Pit {
	p := pit(name, 1+s.next(9), s.next(5), 5+s.next(5), 10*s.next(5))
	for class := range 3 {
		if s.is(2) {
			p.Classes = append(p.Classes, class)
		}
	}
	return p
}

// list is n batches of soils of a yard.
func (s *numbers) list(y api.Yard, n int) []api.Batch {
	var l []api.Batch
	for k := range n {
		b := batch(90-k, s.next(1+s.next(30)), y.Bulking[s.next(len(y.Bulking))].Soil, s.next(3))
		b.Overflow = s.next(b.Bed + 1)
		if s.is(2) {
			b.Overflow = 0
		}
		l = append(l, b)
	}
	return l
}

// pitNamed is the pit with a name.
func pitNamed(s api.Yard, name string) (api.Pit, bool) {
	for _, p := range s.Pits {
		if p.Name == name {
			return p, true
		}
	}
	return api.Pit{}, false
}

// takes reports whether a pit accepts a batch.
func takes(p api.Pit, b api.Batch) bool { return slices.Contains(p.Classes, b.Class) }

// roomOf is the room of a pit.
func roomOf(s api.Yard, name string) int {
	p, _ := pitNamed(s, name)
	out := p.Area * (p.Top - p.Base)
	for _, d := range s.Deposits {
		if d.Pit == name {
			out -= d.Volume
		}
	}
	return out
}

// volumesOf are the bulked volumes of batches by their numbers.
func volumesOf(s api.Yard, l []api.Batch) map[int]int {
	out := map[int]int{}
	rests := slices.Clone(s.Carry)
	for _, b := range l {
		for k, f := range s.Bulking {
			if f.Soil == b.Soil {
				out[b.Number], rests[k] = bulkedOf(f.Factor, b, rests[k])
			}
		}
	}
	return out
}

// sumOf is the sum of these volumes.
func sumOf(s api.Yard, l []api.Batch) int {
	sum := 0
	for _, n := range volumesOf(s, l) {
		sum += n
	}
	return sum
}

// isAssignment is the definition of the chapter.
func isAssignment(s api.Yard, l []api.Batch, x []api.Allot) bool {
	parts, held := map[int]*big.Int{}, map[string]*big.Int{}
	for _, b := range l {
		parts[b.Number] = new(big.Int)
	}
	for _, p := range s.Pits {
		held[p.Name] = new(big.Int)
	}
	for i, a := range x {
		k := slices.IndexFunc(l, func(b api.Batch) bool { return b.Number == a.Batch })
		p, is := pitNamed(s, a.Pit)
		if k < 0 || !is || !takes(p, l[k]) || a.Volume <= 0 {
			return false
		}
		if slices.ContainsFunc(x[:i], func(b api.Allot) bool { return b.Batch == a.Batch && b.Pit == a.Pit }) {
			return false
		}
		v := big.NewInt(int64(a.Volume))
		parts[a.Batch].Add(parts[a.Batch], v)
		held[a.Pit].Add(held[a.Pit], v)
	}
	for number, n := range volumesOf(s, l) {
		if parts[number].Cmp(big.NewInt(int64(n))) != 0 {
			return false
		}
	}
	for name, n := range held {
		if n.Cmp(big.NewInt(int64(roomOf(s, name)))) > 0 {
			return false
		}
	}
	return true
}

// isCut is the definition of the chapter.
func isCut(s api.Yard, l []api.Batch, cut []int) bool {
	volumes := volumesOf(s, l)
	sum := 0
	var in []api.Batch
	for i, number := range cut {
		k := slices.IndexFunc(l, func(b api.Batch) bool { return b.Number == number })
		if k < 0 || slices.Contains(cut[:i], number) {
			return false
		}
		in = append(in, l[k])
		sum += volumes[number]
	}
	for _, p := range s.Pits {
		if slices.ContainsFunc(in, func(b api.Batch) bool { return takes(p, b) }) {
			sum -= roomOf(s, p.Name)
		}
	}
	return sum > 0
}

// hasCut reports whether any batches are a cut.
func hasCut(s api.Yard, l []api.Batch) bool {
	for set := range 1 << len(l) {
		var cut []int
		for k, b := range l {
			if set>>k&1 == 1 {
				cut = append(cut, b.Number)
			}
		}
		if isCut(s, l, cut) {
			return true
		}
	}
	return false
}

// costOf is the cost of an assignment.
func costOf(s api.Yard, x []api.Allot) *big.Int {
	sum := new(big.Int)
	for _, a := range x {
		p, _ := pitNamed(s, a.Pit)
		sum.Add(sum, new(big.Int).Mul(big.NewInt(int64(a.Volume)), big.NewInt(int64(p.Price))))
	}
	return sum
}

// isTariff is the definition of the chapter.
func isTariff(s api.Yard, l []api.Batch, x api.Tariff) bool {
	if len(x.Batches) != len(l) || len(x.Pits) != len(s.Pits) {
		return false
	}
	for _, n := range slices.Concat(x.Batches, x.Pits) {
		if n < 0 || n > 20000 {
			return false
		}
	}
	for i, b := range l {
		for k, p := range s.Pits {
			if takes(p, b) && x.Batches[i]-x.Pits[k] > p.Price {
				return false
			}
		}
	}
	return true
}

// yieldOf is what a tariff yields.
func yieldOf(s api.Yard, l []api.Batch, x api.Tariff) *big.Int {
	sum := new(big.Int)
	volumes := volumesOf(s, l)
	for i, b := range l {
		sum.Add(sum, new(big.Int).Mul(big.NewInt(int64(x.Batches[i])), big.NewInt(int64(volumes[b.Number]))))
	}
	for k, p := range s.Pits {
		sum.Sub(sum, new(big.Int).Mul(big.NewInt(int64(x.Pits[k])), big.NewInt(int64(roomOf(s, p.Name)))))
	}
	return sum
}

// isCheapest reports whether a freight has what CheckCheapest accepts.
func isCheapest(s api.Yard, l []api.Batch, f api.Freight) bool {
	cost := big.NewInt(int64(f.Cost))
	return isAssignment(s, l, f.Allots) && isTariff(s, l, f.Tariff) && costOf(s, f.Allots).Cmp(cost) == 0 && yieldOf(s, l, f.Tariff).Cmp(cost) == 0
}

// unit is one cubic centimetre of a batch.
type unit struct{ batch api.Batch }

// leastCost is the least cost of all ways to put small batches into pits, unit by unit; false if there is none.
func leastCost(s api.Yard, l []api.Batch) (int, bool) {
	var units []unit
	volumes := volumesOf(s, l)
	for _, b := range l {
		for range volumes[b.Number] {
			units = append(units, unit{b})
		}
	}
	rooms := [api.MaxPits]int{}
	for k, p := range s.Pits {
		rooms[k] = roomOf(s, p.Name)
	}
	cost := leastFrom(s, units, rooms, map[state]int{})
	return cost, cost < math.MaxInt
}

// state is what decides what the rest of the units costs.
type state struct {
	units int
	rooms [api.MaxPits]int
}

// leastFrom is the least cost of the units, or the greatest number of all if they have no room.
func leastFrom(s api.Yard, units []unit, rooms [api.MaxPits]int, known map[state]int) int {
	if len(units) == 0 {
		return 0
	}
	at := state{len(units), rooms}
	if n, is := known[at]; is {
		return n
	}
	best := math.MaxInt
	for k, p := range s.Pits {
		if takes(p, units[0].batch) && rooms[k] > 0 {
			next := rooms
			next[k]--
			if n := leastFrom(s, units[1:], next, known); n < math.MaxInt {
				best = min(best, n+p.Price)
			}
		}
	}
	known[at] = best
	return best
}
