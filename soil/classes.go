package soil

import (
	"slices"

	"draghead/api"
)

const (
	mostLimits = 5
	mostRank   = 1000 // the divisor of a rule
)

// Ranked returns the ranked value by a rule (P6.8).
func Ranked(values []int, r api.RankRule) (int, api.Errno) {
	if e := checkRule(r); e != api.OK {
		return 0, e
	}
	if len(values) > api.MaxSamples {
		return 0, api.ErrLarge
	}
	for _, n := range values {
		if !isValue(n) {
			return 0, api.ErrRange
		}
	}
	if len(values) < r.Least {
		return 0, api.ErrNone
	}
	ordered := slices.Clone(values)
	slices.Sort(ordered)
	// Rounded up; ranks count from 1 on.
	rank := (len(ordered)*r.Num + r.Den - 1) / r.Den
	return ordered[rank-1], api.OK
}

// Class returns the class of the samples by the standard of a substance.
func Class(l []api.Sample, s api.Standard, r api.RankRule) (int, api.Errno) {
	return Worst(l, []api.Standard{s}, r)
}

// Worst returns the greatest class by all standards.
func Worst(l []api.Sample, s []api.Standard, r api.RankRule) (int, api.Errno) {
	if e := checkLot(l, s, r); e != api.OK {
		return 0, e
	}
	out := 0
	for _, standard := range s {
		value, e := Ranked(valuesOf(l, standard.Substance), r)
		if e != api.OK {
			return 0, e
		}
		out = max(out, classOf(value, standard.Limits))
	}
	return out, api.OK
}

// checkLot returns what is wrong with samples, standards or a rule.
func checkLot(l []api.Sample, s []api.Standard, r api.RankRule) api.Errno {
	if e := CheckSamples(l); e != api.OK {
		return e
	}
	if len(s) > api.MaxStandards {
		return api.ErrLarge
	}
	if e := checkNamed(s, func(s api.Standard) []string { return []string{s.Substance} }, checkLimits); e != api.OK {
		return e
	}
	return checkRule(r)
}

func checkLimits(s api.Standard) api.Errno {
	if e := checkCount(len(s.Limits), mostLimits); e != api.OK {
		return e
	}
	for k, limit := range s.Limits {
		if !isValue(limit) {
			return api.ErrRange
		}
		if k > 0 && limit <= s.Limits[k-1] {
			return api.ErrOrder
		}
	}
	return api.OK
}

func checkRule(r api.RankRule) api.Errno {
	if !within(r.Den, 1, mostRank) || !within(r.Num, 1, r.Den) || !within(r.Least, 1, api.MaxSamples) {
		return api.ErrRange
	}
	return api.OK
}

func valuesOf(l []api.Sample, substance string) []int {
	var out []int
	for _, s := range l {
		if s.Substance == substance {
			out = append(out, s.Value)
		}
	}
	return out
}

// classOf counts the limits that a value reaches.
func classOf(value int, limits []int) int {
	out := 0
	for _, limit := range limits {
		if limit <= value {
			out++
		}
	}
	return out
}
