package disposal

import "draghead/api"

const mostValue = 20000 // cents for each cubic metre

// Cheapest returns a cheapest assignment with a proof that it is one (P9.7).
func Cheapest(s api.Yard, l []api.Batch) (api.Freight, api.Errno) {
	j, e := jobOf(s, l)
	if e != api.OK {
		return api.Freight{}, e
	}
	y := j.filled()
	if !y.isDone() {
		return api.Freight{}, api.ErrCapacity
	}
	x := j.allots(y)
	return api.Freight{Allots: x, Cost: j.cost(x), Tariff: j.tariff(y)}, api.OK
}

// CheckCheapest accepts a cheapest assignment with its proof.
func CheckCheapest(s api.Yard, l []api.Batch, f api.Freight) api.Errno {
	j, e := jobOf(s, l)
	if e != api.OK {
		return e
	}
	return proof(j.isAssignment(f.Allots) && j.cost(f.Allots) == f.Cost && j.isTariff(f.Tariff) && j.yield(f.Tariff) == f.Cost)
}

// cost returns the cost of an assignment.
func (j job) cost(x []api.Allot) int {
	sum := 0
	for _, a := range x {
		sum += a.Volume * j.Pits[pitOf(j.Yard, a.Pit)].Price
	}
	return sum
}

// tariff returns the tariff that yields what a filled yard costs.
func (j job) tariff(y yard) api.Tariff {
	worths := j.worths(y)
	var out api.Tariff
	for batch := range j.batches {
		out.Batches = append(out.Batches, j.least(worths, batch))
	}
	for pit, p := range j.Pits {
		out.Pits = append(out.Pits, worths[pit]-p.Price)
	}
	return out
}

// worths returns for each pit the greatest price of it and of the pits out of which something can be moved, step by step, so that it has more. No pit with room is worth more than its price: otherwise the yard would not be filled in the cheapest way.
func (j job) worths(y yard) []int {
	var out []int
	for _, p := range j.Pits {
		out = append(out, p.Price)
	}
	for range j.Pits { // no way between two pits has more steps
		for from := range j.Pits {
			for to := range j.Pits {
				if j.isOpen(y, from, to) {
					out[to] = max(out[to], out[from])
				}
			}
		}
	}
	return out
}

// isOpen reports whether something can be moved from a pit to another one.
func (j job) isOpen(y yard, from, to int) bool {
	for batch := range j.batches {
		if y.amounts[batch][from] > 0 && j.accepts(to, batch) {
			return true
		}
	}
	return false
}

// least returns the least worth of the pits that accept a batch; 0 if there is none.
func (j job) least(worths []int, batch int) int {
	out, is := 0, false
	for pit, n := range worths {
		if j.accepts(pit, batch) && (!is || n < out) {
			out, is = n, true
		}
	}
	return out
}

func (j job) isTariff(t api.Tariff) bool {
	if len(t.Batches) != len(j.batches) || len(t.Pits) != len(j.Pits) || !areValues(t.Batches) || !areValues(t.Pits) {
		return false
	}
	for batch, value := range t.Batches {
		for pit, p := range j.Pits {
			if j.accepts(pit, batch) && value > p.Price+t.Pits[pit] {
				return false
			}
		}
	}
	return true
}

func areValues(l []int) bool {
	for _, n := range l {
		if !within(n, 0, mostValue) {
			return false
		}
	}
	return true
}

// yield returns what a tariff yields.
func (j job) yield(t api.Tariff) int {
	sum := 0
	for batch, value := range t.Batches {
		sum += value * j.volumes[batch]
	}
	for pit, n := range j.rooms() {
		sum -= t.Pits[pit] * n
	}
	return sum
}
