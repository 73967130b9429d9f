package sounding

import (
	"cmp"
	"slices"

	"draghead/api"
)

// Thin returns which soundings of a sheet are kept, and the guards of the others (P3.5).
func Thin(l []api.Sounding, radius int) (api.Thinned, api.Errno) {
	if e := checkToThin(l, radius); e != api.OK {
		return api.Thinned{}, e
	}
	ordered := slices.Clone(l)
	slices.SortFunc(ordered, higher)
	var kept []api.Sounding
	var out api.Thinned
	for _, s := range ordered {
		guard := slices.IndexFunc(kept, func(k api.Sounding) bool { return isClose(k, s, radius) })
		if guard < 0 {
			kept = append(kept, s)
			out.Kept = append(out.Kept, s.Number)
		} else {
			out.Guards = append(out.Guards, [2]int{s.Number, kept[guard].Number})
		}
	}
	slices.Sort(out.Kept)
	slices.SortFunc(out.Guards, func(a, b [2]int) int { return cmp.Compare(a[0], b[0]) })
	return out, api.OK
}

// CheckThin returns whether a thinning is right for a sheet and a radius.
func CheckThin(l []api.Sounding, radius int, t api.Thinned) api.Errno {
	if e := checkToThin(l, radius); e != api.OK {
		return e
	}
	if !isRight(l, radius, t) {
		return api.ErrProof
	}
	return api.OK
}

// Keep returns the soundings that a thinning keeps.
func Keep(l []api.Sounding, t api.Thinned) ([]api.Sounding, api.Errno) {
	if e := Check(l); e != api.OK {
		return nil, e
	}
	sheet := byNumber(l)
	kept := map[int]bool{}
	for _, n := range t.Kept {
		if _, is := sheet[n]; !is {
			return nil, api.ErrMissing
		}
		if kept[n] {
			return nil, api.ErrExists
		}
		kept[n] = true
	}
	return choose(l, func(s api.Sounding) bool { return kept[s.Number] }), api.OK
}

func checkToThin(l []api.Sounding, radius int) api.Errno {
	if e := Check(l); e != api.OK {
		return e
	}
	return checkRadius(radius)
}

// higher compares two soundings by the order in which thinning goes through them.
func higher(a, b api.Sounding) int {
	return cmp.Or(
		cmp.Compare(b.Hi, a.Hi),
		cmp.Compare(a.X, b.X),
		cmp.Compare(a.Y, b.Y),
		cmp.Compare(a.Number, b.Number),
	)
}

// isRight goes by numbers: as the lists ascend, and no guarded number is a kept one, they have each number of the sheet if they have as many as there are.
func isRight(l []api.Sounding, radius int, t api.Thinned) bool {
	if len(t.Kept)+len(t.Guards) != len(l) {
		return false
	}
	sheet := byNumber(l)
	kept := map[int]api.Sounding{}
	for i, n := range t.Kept {
		s, is := sheet[n]
		if !is || i > 0 && n <= t.Kept[i-1] || anyClose(kept, s, radius) {
			return false
		}
		kept[n] = s
	}
	for i, pair := range t.Guards {
		s, is := sheet[pair[0]]
		if !is || i > 0 && pair[0] <= t.Guards[i-1][0] || !isGuard(kept, s, pair[1], radius) {
			return false
		}
	}
	return true
}

func anyClose(kept map[int]api.Sounding, s api.Sounding, radius int) bool {
	for _, k := range kept {
		if isClose(k, s, radius) {
			return true
		}
	}
	return false
}

// isGuard reports whether s is not kept, but guarded by the kept sounding with this number.
func isGuard(kept map[int]api.Sounding, s api.Sounding, guard, radius int) bool {
	if _, is := kept[s.Number]; is {
		return false
	}
	k, is := kept[guard]
	return is && isClose(k, s, radius) && k.Hi >= s.Hi
}
