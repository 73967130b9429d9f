package sounding_test

import (
	"math"
	"slices"
	"testing"

	"draghead/api"
	"draghead/sounding"
	"draghead/tide"
)

func TestP38TrueLevels(t *testing.T) {
	s := &numbers{40}
	for range 300 {
		r := api.Raw{Number: 1 + s.next(9), Minute: s.next(11), X: s.around(1200), Y: s.around(99), Depth: s.next(900), Draught: s.next(90), Error: s.next(7)}
		water, e := tide.Level(slope(), r.X, r.Minute)
		same(t, e, api.OK, "Level", r)
		got, e := sounding.Reduce(slope(), r)
		same(t, e, api.OK, "Reduce", r)
		same(t, sounding.Check([]api.Sounding{got}), api.OK, "Check after Reduce", r)
		least, most := math.MaxInt, math.MinInt
		for level := water.Lo; level <= water.Hi; level++ {
			for off := -r.Error; off <= r.Error; off++ {
				bed := level - r.Draught - (r.Depth + off)
				least, most = min(least, bed), max(most, bed)
				same(t, got.Lo <= bed && bed <= got.Hi, true, "the level of the bed is in the interval", r, level, off)
			}
		}
		same(t, got, at(r.Number, r.X, r.Y, least, most), "no interval is greater than needed", r)
	}
}

func TestP38GreaterError(t *testing.T) {
	s := &numbers{41}
	for range 500 {
		r := api.Raw{Number: 1, Minute: s.next(11), X: s.around(1200), Depth: s.next(900), Draught: s.next(90), Error: s.next(900)}
		unsure, g := r, slope()
		unsure.Error += 1 + s.next(99)
		a, _ := sounding.Reduce(slope(), r)
		b, _ := sounding.Reduce(slope(), unsure)
		same(t, b.Lo < a.Lo && a.Hi < b.Hi, true, "a greater error of the sounding", r, unsure)
		for i := range g {
			g[i].Error += s.next(9)
		}
		b, _ = sounding.Reduce(g, r)
		same(t, b.Lo <= a.Lo && a.Hi <= b.Hi, true, "a greater error of a gauge", r, g)
	}
}

func TestP39NoShoalIsLost(t *testing.T) {
	s := &numbers{42}
	for range 1000 {
		l, radius := s.sheet(15, 5), s.next(6)
		thin, e := sounding.Thin(l, radius)
		same(t, e, api.OK, "Thin", l, radius)
		same(t, sounding.CheckThin(l, radius, thin), api.OK, "CheckThin", l, radius)
		kept, e := sounding.Keep(l, thin)
		same(t, e, api.OK, "Keep", l, radius)
		same(t, len(kept), len(thin.Kept), "Keep", l, radius)
		for _, x := range l {
			guarded := slices.ContainsFunc(kept, func(k api.Sounding) bool { return apart(x, k) <= radius*radius && k.Hi >= x.Hi })
			same(t, guarded, true, "a kept one is near and as high", l, radius, x)
			shoal := slices.ContainsFunc(kept, func(k api.Sounding) bool { return k.Hi >= x.Hi })
			same(t, shoal, true, "the greatest Hi is kept", l, radius, x)
		}
		again, e := sounding.Thin(kept, radius)
		same(t, e, api.OK, "Thin again", l, radius)
		sameThinned(t, again, api.Thinned{Kept: thin.Kept}, "Thin again", l, radius)
		exact, _ := sounding.Thin(l, 0)
		for _, pair := range exact.Guards {
			x, _ := find(l, pair[0])
			k, _ := find(l, pair[1])
			same(t, apart(x, k), 0, "with the radius 0 only soundings at one place", l, pair)
		}
	}
}

// The order of a sheet does not matter for what is kept.
func TestP39AnyOrder(t *testing.T) {
	s := &numbers{43}
	for range 300 {
		l, radius := s.sheet(15, 5), s.next(6)
		one, _ := sounding.Thin(l, radius)
		other, _ := sounding.Thin(ascending(l), radius)
		sameThinned(t, one, other, "Thin of another order", l, radius)
	}
}

func TestP310BinIsHighEnough(t *testing.T) {
	s := &numbers{44}
	for range 300 {
		l := s.sheet(15, 250)
		g := cells(-200, -200, 100, 4, 4)
		bin, e := sounding.Bin(l, g)
		same(t, e, api.OK, "Bin", l)
		for r := range g.Rows {
			for c := range g.Cols {
				level := bin.Levels[r*g.Cols+c]
				inside := in(l, g, c, r)
				for _, x := range inside {
					same(t, x.Hi <= level, true, "no sounding is higher", l, x)
				}
				attained := slices.ContainsFunc(inside, func(x api.Sounding) bool { return x.Hi == level })
				same(t, attained || len(inside) == 0 && level == u, true, "one of them is as high", l, c, r)
			}
		}
	}
}

func TestP310BinInParts(t *testing.T) {
	s := &numbers{45}
	for range 300 {
		l := s.sheet(15, 250)
		g := cells(-200, -200, 100, 4, 4)
		cut := s.next(len(l) + 1)
		for name, f := range map[string]func([]api.Sounding, api.Grid) (api.Grid, api.Errno){"Bin": sounding.Bin, "Floor": sounding.Floor} {
			whole, _ := f(l, g)
			a, _ := f(l[:cut], g)
			b, _ := f(l[cut:], g)
			for i, level := range whole.Levels {
				want := max(a.Levels[i], b.Levels[i])
				if a.Levels[i] == u || b.Levels[i] == u {
					want = min(a.Levels[i], b.Levels[i]) // the known one
				}
				same(t, level, want, name, l, cut, i)
			}
		}
	}
}

func TestP310WithoutAndMerge(t *testing.T) {
	s := &numbers{46}
	for range 300 {
		l := ascending(s.sheet(12, 5))
		var taken []api.Sounding
		var out []int
		for _, x := range l {
			if s.next(2) == 0 {
				taken, out = append(taken, x), append(out, x.Number)
			}
		}
		rest, e := sounding.Without(l, out)
		same(t, e, api.OK, "Without", l, out)
		for _, pair := range [][2][]api.Sounding{{rest, taken}, {taken, rest}, {l, taken}, {rest, l}} {
			back, e := sounding.Merge(pair[0], pair[1])
			same(t, e, api.OK, "Merge", pair)
			sameList(t, back, l, "Merge", pair)
		}
		whole, _ := sounding.Merge(rest, taken)
		again, e := sounding.Without(whole, out)
		same(t, e, api.OK, "Without after Merge", l, out)
		sameList(t, again, rest, "Without after Merge", l, out)
	}
}

func TestP310ShiftAndBack(t *testing.T) {
	s := &numbers{47}
	for range 300 {
		l, by := s.sheet(12, 5), s.around(99000)
		there, e := sounding.Shift(l, by)
		same(t, e, api.OK, "Shift", l, by)
		back, e := sounding.Shift(there, -by)
		same(t, e, api.OK, "Shift", l, by)
		sameList(t, back, l, "Shift and back", l, by)
	}
}

func TestP310ReadBack(t *testing.T) {
	s := &numbers{48}
	for range 500 {
		l := s.sheet(20, api.MaxPlace)
		text, e := sounding.Sheet(l)
		same(t, e, api.OK, "Sheet", l)
		got, n, e := sounding.ParseSheet(text)
		same(t, e, api.OK, "ParseSheet", text)
		same(t, n, 0, "ParseSheet", text)
		sameList(t, got, l, "ParseSheet", text)
		r := api.Raw{Number: 1 + s.next(1000000), Minute: s.next(1000001), X: s.around(farthest), Y: s.around(farthest), Depth: s.next(20001), Draught: s.next(20001), Error: s.next(1001)}
		text, e = sounding.FormatRaw(r)
		same(t, e, api.OK, "FormatRaw", r)
		back, e := sounding.ParseRaw(text)
		same(t, e, api.OK, "ParseRaw", text)
		same(t, back, r, "ParseRaw", text)
	}
	// The longest text of a sheet.
	var longest []api.Sounding
	for i := range api.MaxSoundings {
		longest = append(longest, at(api.MaxNumber-i, -farthest, -farthest, -highest, -highest))
	}
	text, _ := sounding.Sheet(longest)
	got, _, e := sounding.ParseSheet(text)
	same(t, e, api.OK, "ParseSheet of the longest text")
	sameList(t, got, longest, "ParseSheet of the longest text")
}

// roomy is a list that has room behind its end, with an element there that nobody may overwrite.
func roomy[T any](l []T, behind T) []T {
	return append(slices.Clone(l), behind)[:len(l)]
}

// R3: results are overwritten here, and the arguments are what they were before.
func TestP310Memory(t *testing.T) {
	e := example()
	mixed := []api.Sounding{e[3], e[1], e[0], e[2]}
	l, other := roomy(mixed, at(77, 7, 7, 7, 7)), roomy(e[:2], at(78, 8, 8, 8, 8))
	raw, g := roomy([]api.Raw{seven(), {Number: 9, Minute: 99}}, least()), pier()
	wanted, grid := roomy([]int{4, 1}, 99), with(cells(0, 0, 100, 10, 1), 1, 2, 3, 4, 5, 6, 7, 8, 9, 10)
	thin := api.Thinned{Kept: roomy([]int{4, 3, 1}, 98), Guards: roomy([][2]int{{2, 3}}, [2]int{5, 6})}
	wipe := func(l []api.Sounding, _ api.Errno) { clear(l[:cap(l)]) }
	wipeNumbers := func(l []int, _ api.Errno) { clear(l[:cap(l)]) }
	wipeGrid := func(g api.Grid, _ api.Errno) { clear(g.Levels[:cap(g.Levels)]) }
	wipe(sounding.Without(l, wanted))
	wipe(sounding.Without(l, nil))
	wipe(sounding.Keep(l, thin))
	wipe(sounding.Keep(l, api.Thinned{Kept: []int{1, 2, 3, 4}}))
	wipe(sounding.Merge(l, other))
	wipe(sounding.Merge(other, l))
	wipe(sounding.Merge(l, nil))
	wipe(sounding.Merge(nil, l))
	wipe(sounding.Shift(l, 0))
	wipe(sounding.Shift(l, 5))
	wipe(sounding.Shift(l, -99105))
	wipe(sounding.Shift(l, 100450))
	wipeNumbers(sounding.Near(l, api.Point{}, 9))
	wipeNumbers(sounding.Spikes(l, api.Spike{Count: 2}))
	wipeNumbers(sounding.Count(l, grid))
	wipeGrid(sounding.Bin(l, grid))
	wipeGrid(sounding.Floor(l, grid))
	crossings, _ := sounding.Cross(l, other, 50)
	clear(crossings)
	thinner, _ := sounding.Thin(l, 50)
	clear(thinner.Kept[:cap(thinner.Kept)])
	clear(thinner.Guards[:cap(thinner.Guards)])
	sounding.CheckThin(l, 50, thin)
	reduced, missing, _ := sounding.ReduceAll(g, raw)
	clear(reduced[:cap(reduced)])
	clear(missing[:cap(missing)])
	sameList(t, l[:5], append(mixed, at(77, 7, 7, 7, 7)), "the sheet")
	sameList(t, other[:3], append(e[:2:2], at(78, 8, 8, 8, 8)), "the other sheet")
	sameList(t, raw[:3], []api.Raw{seven(), {Number: 9, Minute: 99}, least()}, "the raw soundings")
	sameList(t, g[0].Marks, pier()[0].Marks, "the gauge")
	sameList(t, wanted[:3], []int{4, 1, 99}, "the numbers")
	sameList(t, grid.Levels, []int{1, 2, 3, 4, 5, 6, 7, 8, 9, 10}, "the levels")
	sameList(t, thin.Kept[:4], []int{4, 3, 1, 98}, "what is kept")
	sameList(t, thin.Guards[:2], [][2]int{{2, 3}, {5, 6}}, "the guards")
}

// R2 and R4: the ends of the range of int everywhere, and results that are the same again.
func TestP310AnyArguments(t *testing.T) {
	ends := []int{math.MinInt, -1, 0, 1, math.MaxInt}
	sheets := [][]api.Sounding{nil, example(), extremes()}
	for _, a := range ends {
		sounding.Reduce(pier(), api.Raw{Number: a, Depth: a})
		for _, b := range ends {
			sheetCalls([]api.Sounding{at(a, b, a, a, b), at(b, a, b, b, a)})
			for _, l := range sheets {
				sounding.Near(l, api.Point{X: a, Y: b}, a)
				sounding.Shift(l, a)
				sounding.Without(l, []int{a, b})
				sounding.Keep(l, api.Thinned{Kept: []int{b, a}})
				sounding.CheckThin(l, 1, api.Thinned{Kept: []int{a, b}, Guards: [][2]int{{a, b}, {b, a}}})
				for _, c := range ends {
					one, e := sounding.Bin(l, cells(c, c, 100, a, b))
					other, f := sounding.Bin(l, cells(c, c, 100, a, b))
					same(t, e, f, "Bin", a, b, c)
					sameGrid(t, one, other, "Bin", a, b, c)
					sounding.Count(l, cells(a, b, c, 1, 1))
				}
			}
		}
	}
}
