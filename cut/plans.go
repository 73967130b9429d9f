package cut

import "draghead/api"

// After returns the bed behind the first n cuts (P7.4).
func After(s api.Site, l []api.Cut, n int) (api.Grid, api.Errno) {
	if e := CheckCuts(s, l); e != api.OK {
		return api.Grid{}, e
	}
	if !within(n, 0, len(l)) {
		return api.Grid{}, api.ErrRange
	}
	return behind(s.Bed, l[:n]), api.OK
}

// First returns the first violation of a plan, and whether there is one.
func First(s api.Site, l []api.Cut) (api.Violation, bool, api.Errno) {
	if e := CheckCuts(s, l); e != api.OK {
		return api.Violation{}, false, e
	}
	v, is := firstViolation(fieldOf(s).jobs(l))
	return v, is, api.OK
}

// CheckPlan returns the rule of the first violation of a plan.
func CheckPlan(s api.Site, l []api.Cut) api.Errno {
	_, e := planned(s, l)
	return e
}

// CheckViolation accepts the first violation of a plan.
func CheckViolation(s api.Site, l []api.Cut, v api.Violation) api.Errno {
	first, is, e := First(s, l)
	if e != api.OK {
		return e
	}
	if !is || v != first {
		return api.ErrProof
	}
	return api.OK
}

// Times returns the spells of the cuts of a plan without violations.
func Times(s api.Site, l []api.Cut) ([]api.Spell, api.Errno) {
	all, e := planned(s, l)
	var out []api.Spell
	for _, j := range all {
		out = append(out, j.spell())
	}
	return out, e
}

// Cost returns what the cuts of a plan without violations cost together.
func Cost(s api.Site, l []api.Cut) (int, api.Errno) {
	all, e := planned(s, l)
	out := 0
	for _, j := range all {
		out += j.effort.price
	}
	return out, e
}

// planned returns the jobs of a plan, or what is wrong with it, without jobs.
func planned(s api.Site, l []api.Cut) ([]job, api.Errno) {
	if e := CheckCuts(s, l); e != api.OK {
		return nil, e
	}
	all := fieldOf(s).jobs(l)
	if v, is := firstViolation(all); is {
		return nil, v.Rule
	}
	return all, api.OK
}

// jobs returns the jobs of a plan, each one on the bed behind those before it.
func (f field) jobs(l []api.Cut) []job {
	var out []job
	bed := f.Bed
	for _, c := range l {
		j := f.job(bed, c)
		bed = j.after
		out = append(out, j)
	}
	return out
}

// behind returns the bed behind cuts, which shares no memory with the one before.
func behind(bed api.Grid, l []api.Cut) api.Grid {
	bed.Levels = append([]int(nil), bed.Levels...)
	for _, c := range l {
		bed = lower(bed, c)
	}
	return bed
}

func firstViolation(all []job) (api.Violation, bool) {
	for at, j := range all {
		v, is := firstBroken(func() {
			j.keepOrder(all[:at])
			j.keepTraffic(all[:at])
			j.keepRules()
		})
		if is {
			v.At = at
			return v, true
		}
	}
	return api.Violation{}, false
}

func (j job) keepOrder(earlier []job) {
	if n := len(earlier); n > 0 && j.cut.Start < earlier[n-1].cut.Start {
		panic(broken{api.ErrOrder, j.cells[0]})
	}
}

func (j job) keepTraffic(earlier []job) {
	for _, o := range earlier {
		if j.meets(o) && (j.cut.Dredger == o.cut.Dredger || j.overlaps(o)) {
			panic(broken{api.ErrTraffic, j.cells[0]})
		}
	}
}

// meets reports whether the spells of two jobs have a minute in common.
func (j job) meets(o job) bool {
	return haveCommon(j.cut.Start, j.effort.minutes, o.cut.Start, o.effort.minutes)
}

// overlaps reports whether the footprints of two jobs have a cell in common.
func (j job) overlaps(o job) bool {
	return haveCommon(j.cut.Col, j.cut.Cols, o.cut.Col, o.cut.Cols) && haveCommon(j.cut.Row, j.cut.Rows, o.cut.Row, o.cut.Rows)
}

// haveCommon reports whether n numbers from a on, and m numbers from b on, have one in common.
func haveCommon(a, n, b, m int) bool {
	return max(a, b) < min(a+n, b+m)
}
