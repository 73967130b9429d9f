package disposal

import (
	"slices"

	"draghead/api"
)

// Place returns the yard with a batch in a pit (P9.4).
func Place(s api.Yard, b api.Batch, pit string) (api.Yard, api.Errno) {
	if e := CheckBatch(s, b); e != api.OK {
		return api.Yard{}, e
	}
	if e := checkNew(s, b); e != api.OK {
		return api.Yard{}, e
	}
	k := pitOf(s, pit)
	if k < 0 {
		return api.Yard{}, api.ErrMissing
	}
	if e := refusal(s, b, s.Pits[k]); e != api.OK {
		return api.Yard{}, e
	}
	if len(s.Deposits) >= api.MaxDeposits {
		return api.Yard{}, api.ErrLarge
	}
	return with(s, b, pit), api.OK
}

// Reasons returns why pits would not take a batch.
func Reasons(s api.Yard, b api.Batch) ([]api.Refused, api.Errno) {
	if e := CheckBatch(s, b); e != api.OK {
		return nil, e
	}
	var out []api.Refused
	for _, p := range s.Pits {
		if e := refusal(s, b, p); e != api.OK {
			out = append(out, api.Refused{Pit: p.Name, Reason: e})
		}
	}
	return out, api.OK
}

// Choose returns the cheapest pit that would take a batch.
func Choose(s api.Yard, b api.Batch) (string, api.Errno) {
	if e := CheckBatch(s, b); e != api.OK {
		return "", e
	}
	best := -1
	for k, p := range s.Pits {
		if refusal(s, b, p) == api.OK && (best < 0 || p.Price < s.Pits[best].Price) {
			best = k
		}
	}
	if best < 0 {
		return "", api.ErrNone
	}
	return s.Pits[best].Name, api.OK
}

// refusal returns why a pit would not take a batch.
func refusal(s api.Yard, b api.Batch, p api.Pit) api.Errno {
	if !accepts(p, b) {
		return api.ErrClass
	}
	if volume, _ := bulk(s, b, s.Carry); room(s, p) < volume {
		return api.ErrCapacity
	}
	return api.OK
}

func accepts(p api.Pit, b api.Batch) bool {
	return slices.Contains(p.Classes, b.Class)
}

// with returns the yard with a further deposit.
func with(s api.Yard, b api.Batch, pit string) api.Yard {
	volume, rest := bulk(s, b, s.Carry)
	out := copyOf(s)
	out.Deposits = append(out.Deposits, api.Deposit{Batch: b.Number, Pit: pit, Volume: volume})
	out.Carry[factorOf(s, b)] = rest
	return out
}
