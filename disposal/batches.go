package disposal

import (
	"slices"

	"draghead/api"
)

const mostBed = 1000000000000 // cubic centimetres

// CheckBatch returns what is wrong with a batch (P9.2).
func CheckBatch(s api.Yard, b api.Batch) api.Errno {
	if e := Check(s); e != api.OK {
		return e
	}
	return checkBatch(s, b)
}

// Bulked returns the bulked volume of a batch, and the next remainder of its soil.
func Bulked(s api.Yard, b api.Batch) (volume, carry int, e api.Errno) {
	if e := CheckBatch(s, b); e != api.OK {
		return 0, 0, e
	}
	volume, carry = bulk(s, b, s.Carry)
	return volume, carry, api.OK
}

// Balance returns what became of a list of batches (P9.5).
func Balance(s api.Yard, l []api.Batch) (api.Balance, api.Errno) {
	if e := Check(s); e != api.OK {
		return api.Balance{}, e
	}
	none := func(api.Batch) api.Errno { return api.OK }
	if e := checkBatches(s, l, api.MaxDeposits, none); e != api.OK {
		return api.Balance{}, e
	}
	out := api.Balance{Placed: placed(s, l)}
	for _, b := range l {
		out.Bed += b.Bed
		out.Overflow += b.Overflow
	}
	for _, volume := range bulkAll(s, l, make([]int, len(s.Bulking))) {
		out.Bulked += volume
	}
	return out, api.OK
}

// checkBatch returns the error of a batch, the yard without errors.
func checkBatch(s api.Yard, b api.Batch) api.Errno {
	if e := checkNumber(b.Number); e != api.OK {
		return e
	}
	if !within(b.Bed, 0, mostBed) || !within(b.Overflow, 0, b.Bed) {
		return api.ErrRange
	}
	if factorOf(s, b) < 0 {
		return api.ErrMissing
	}
	if !isClass(b.Class) {
		return api.ErrRange
	}
	return api.OK
}

// checkBatches returns what is wrong with a list of batches; behind tells what else is wrong with one that is not there twice.
func checkBatches(s api.Yard, l []api.Batch, most int, behind func(api.Batch) api.Errno) api.Errno {
	if len(l) > most {
		return api.ErrLarge
	}
	number := func(b api.Batch) int { return b.Number }
	return checkList(l, number, func(b api.Batch) api.Errno { return checkBatch(s, b) }, behind)
}

// checkNew returns what is wrong with a batch that is to be placed.
func checkNew(s api.Yard, b api.Batch) api.Errno {
	if slices.ContainsFunc(s.Deposits, func(d api.Deposit) bool { return d.Batch == b.Number }) {
		return api.ErrExists
	}
	return api.OK
}

// placed returns the sum of the deposits of batches.
func placed(s api.Yard, l []api.Batch) int {
	sum := 0
	for _, d := range s.Deposits {
		if slices.ContainsFunc(l, func(b api.Batch) bool { return b.Number == d.Batch }) {
			sum += d.Volume
		}
	}
	return sum
}

// factorOf returns the index of the bulking factor of a batch, or -1.
func factorOf(s api.Yard, b api.Batch) int {
	return slices.IndexFunc(s.Bulking, func(f api.Bulking) bool { return f.Soil == b.Soil })
}

// bulk returns the bulked volume of a batch from one of these remainders, and the next one.
func bulk(s api.Yard, b api.Batch, carry []int) (int, int) {
	k := factorOf(s, b)
	f := s.Bulking[k].Factor
	all := (b.Bed-b.Overflow)*f.Num + carry[k]
	return all / f.Den, all % f.Den
}

// bulkAll returns the bulked volumes of batches one after another, beginning with these remainders.
func bulkAll(s api.Yard, l []api.Batch, carry []int) []int {
	carry = slices.Clone(carry)
	var out []int
	for _, b := range l {
		volume, rest := bulk(s, b, carry)
		carry[factorOf(s, b)] = rest
		out = append(out, volume)
	}
	return out
}
