package soil_test

import (
	"math"
	"slices"
	"testing"

	"draghead/api"
	"draghead/bed"
	"draghead/soil"
)

func TestP69ColumnIsWhole(t *testing.T) {
	s := &numbers{71}
	for range 500 {
		g, p := s.ground(300), at(s.around(300), s.around(300))
		from := s.around(800)
		to := from - s.next(900)
		l, e := soil.Column(g, p, from, to)
		same(t, e, api.OK, "Column", g, p, from, to)
		level := from
		for _, part := range l {
			same(t, part.Top, level, "a part follows the one before", g, p, l)
			same(t, part.Bottom < part.Top, true, "a part is not empty", g, p, l)
			for ; level > part.Bottom; level-- {
				name, _ := soil.At(g, p, level)
				same(t, name, part.Soil, "the soil of a part", g, p, level)
			}
		}
		same(t, level, to, "the last part", g, p, l)
	}
}

func TestP69SharesAddUp(t *testing.T) {
	s := &numbers{72}
	for range 500 {
		g, before := s.ground(1000), s.grid(1000, 6)
		after := s.again(before)
		l, e := soil.Shares(g, before, after)
		same(t, e, api.OK, "Shares", g, before, after)
		sum := 0
		for _, x := range l {
			sum += x.Volume
		}
		change, _ := bed.Compare(before, after)
		same(t, sum, change.Cut, "the volumes together", g, before, after)
	}
}

func TestP69SlumpEnds(t *testing.T) {
	s := &numbers{73}
	for range 400 {
		g, m := s.ground(1000), s.grid(1000, 6)
		once, _, e := soil.Slump(g, m)
		same(t, e, api.OK, "Slump", g, m)
		steeps, e := soil.Steeps(g, once)
		same(t, of(steeps, e), refused(api.OK), "Steeps", g, once)
		twice, n, e := soil.Slump(g, once)
		same(t, e, api.OK, "Slump", g, once)
		same(t, n, 0, "what falls of a bed that stands", g, once)
		sameGrid(t, twice, once, "Slump of a bed that stands", g)
		heaped, n, e := soil.Heap(g, once)
		same(t, e, api.OK, "Heap", g, once)
		same(t, n, 0, "what is added to a bed that stands", g, once)
		sameGrid(t, heaped, once, "Heap of a bed that stands", g)
	}
}

func TestP69SlumpIsTheGreatest(t *testing.T) {
	s := &numbers{74}
	for range 400 {
		g, m := s.ground(1000), s.grid(1000, 5)
		most, _, e := soil.Slump(g, m)
		same(t, e, api.OK, "Slump", g, m)
		lower := with(m, slices.Clone(m.Levels)...)
		for i := range lower.Levels {
			if known(lower, i) {
				lower.Levels[i] -= s.next(100)
			}
		}
		lower, _ = ends(g, lower) // it stands, too
		for i := range m.Levels {
			same(t, lower.Levels[i] <= most.Levels[i], true, "a cell of a lower bed", g, m, i)
		}
	}
}

// negated is a grid upside down.
func negated(m api.Grid) api.Grid {
	m = with(m, slices.Clone(m.Levels)...)
	for i := range m.Levels {
		if known(m, i) {
			m.Levels[i] = -m.Levels[i]
		}
	}
	return m
}

func TestP69HeapIsSlumpUpsideDown(t *testing.T) {
	s := &numbers{75}
	for range 400 {
		g, m := s.ground(1000), s.grid(1000, 6)
		heaped, added, e := soil.Heap(g, m)
		same(t, e, api.OK, "Heap", g, m)
		slumped, fallen, e := soil.Slump(g, negated(m))
		same(t, e, api.OK, "Slump", g, m)
		same(t, added, fallen, "the volumes", g, m)
		sameGrid(t, heaped, negated(slumped), "Heap", g, m)
	}
}

func TestP69BulkedInSum(t *testing.T) {
	s := &numbers{76}
	for range 1000 {
		k := s.ground(100).Soils[0]
		one, other := s.next(1000000), s.next(1000000)
		for _, f := range []amount{soil.Bulked, soil.Mass} {
			first, rest, _ := f(k, one, 0)
			second, last, e := f(k, other, rest)
			same(t, e, api.OK, "the second volume", k, one, other)
			checkAmount(t, f, k, one+other, 0, first+second, last, "both volumes")
		}
	}
}

func TestP69Ranks(t *testing.T) {
	s := &numbers{77}
	for range 1000 {
		values, r := s.values(30), s.rule()
		first, e := soil.Ranked(values, r)
		same(t, e, api.OK, "Ranked", values, r)
		for i := range values { // another order
			j := s.next(len(values))
			values[i], values[j] = values[j], values[i]
		}
		again, _ := soil.Ranked(values, r)
		same(t, again, first, "Ranked in another order", values, r)
		before := slices.Clone(values)
		values[s.next(len(values))] += s.next(20)
		grown, _ := soil.Ranked(values, r)
		same(t, grown >= first, true, "a value grows", before, values, r)
		class, e := soil.Class(lot("tin", before...), standard("tin", 3, 9, 17, 25), r)
		same(t, e, api.OK, "Class", before, r)
		greater, _ := soil.Class(lot("tin", values...), standard("tin", 3, 9, 17, 25), r)
		same(t, greater >= class, true, "the class when a value grows", before, values, r)
	}
}

// wipe overwrites a list as far as its memory goes.
func wipe[T any](l []T) { clear(l[:cap(l)]) }

func wipeList[T any](l []T, _ api.Errno) { wipe(l) }

func wipeGrid(m api.Grid, _ api.Errno) { wipe(m.Levels) }

func wipeVolume(m api.Grid, _ int, _ api.Errno) { wipe(m.Levels) }

// roomy is a list with other elements behind its end.
func roomy[T any](l []T, behind T) []T {
	out := append(slices.Clone(l), behind, behind)
	return out[:len(l)]
}

// R3: results are overwritten here, and the arguments are what they were before.
func TestP69Memory(t *testing.T) {
	g := example()
	g.Soils = roomy(g.Soils, kind("z", 7, 7, 7, 7))
	g.Borings[0].Layers = roomy(g.Borings[0].Layers, layer(-9000, "mud"))
	g.Borings = roomy(g.Borings, boring("z", 7, 7))
	before, after, steady := row(-500, -650, u, -600), row(-900, -900, u, -600), row(-500, -500)
	before.Levels, after.Levels, steady.Levels = roomy(before.Levels, 77), roomy(after.Levels, 78), roomy(steady.Levels, 79)
	samples, values := roomy(lot("zinc", 40, 10, 20, 30), sample("z", "z", 7, 7, 7, 7, 7)), roomy([]int{40, 10, 20, 30}, 7)
	limits := roomy([]int{15, 30}, 77)
	standards := roomy([]api.Standard{standard("zinc", limits...)}, standard("z"))
	standards[0].Limits = limits
	box := roomy(points(-5, -5, 500, -5, 500, 5), at(7, 7))
	for range 2 { // what an earlier call gave back has no part in a later one
		wipeList(soil.Column(g, at(0, 0), -100, -900))
		wipeList(soil.Shares(g, before, after))
		wipeList(soil.Steeps(g, before))
		for _, m := range []api.Grid{before, after, steady} {
			wipeVolume(soil.Slump(g, m))
			wipeVolume(soil.Heap(g, m))
			wipeGrid(soil.Wedge(wall(), m))
			wipeList(soil.Undermined(wall(), m))
		}
		wipeList(soil.Chosen(samples, box, -400, -700))
		soil.Nearest(g, at(0, 0))
		soil.At(g, at(0, 0), -500)
		soil.Allowed(g, before, 0, 1)
		soil.CheckSlump(g, before, after)
		soil.CheckSlump(g, steady, steady)
		soil.Ranked(values, rule(3, 4, 1))
		soil.Class(samples, standards[0], rule(3, 4, 1))
		soil.Worst(samples, standards, rule(3, 4, 1))
	}
	sameList(t, g.Soils[:4], []api.Soil{sand(), mud(), kind("z", 7, 7, 7, 7), kind("z", 7, 7, 7, 7)}, "the soils")
	sameList(t, g.Borings[0].Layers[:4], []api.Layer{layer(-500, "mud"), layer(-700, "sand"), layer(-9000, "mud"), layer(-9000, "mud")}, "the layers")
	same(t, g.Borings[0].Name+g.Borings[1].Name+g.Borings[:4][2].Name+g.Borings[:4][3].Name, "BCzz", "the borings")
	sameList(t, before.Levels[:6], []int{-500, -650, u, -600, 77, 77}, "the levels before")
	sameList(t, after.Levels[:6], []int{-900, -900, u, -600, 78, 78}, "the levels after")
	sameList(t, steady.Levels[:4], []int{-500, -500, 79, 79}, "the levels of a bed that stands")
	sameList(t, samples[:6], append(lot("zinc", 40, 10, 20, 30), sample("z", "z", 7, 7, 7, 7, 7), sample("z", "z", 7, 7, 7, 7, 7)), "the samples")
	sameList(t, values[:6], []int{40, 10, 20, 30, 7, 7}, "the values")
	sameList(t, standards[0].Limits[:4], []int{15, 30, 77, 77}, "the limits")
	same(t, standards[0].Substance+standards[:3][1].Substance, "zincz", "the standards")
	sameList(t, box[:5], append(points(-5, -5, 500, -5, 500, 5), at(7, 7), at(7, 7)), "the corners")
}

// R5: a nil list and an empty one.
func TestP69Empty(t *testing.T) {
	none, r := []api.Sample{}, rule(1, 1, 1)
	for _, pair := range [][2]map[string]answer{
		{groundCalls(api.Ground{}), groundCalls(api.Ground{Soils: []api.Soil{}, Borings: []api.Boring{}})},
		{groundCalls(api.Ground{Soils: soils(5)}), groundCalls(api.Ground{Soils: soils(5), Borings: []api.Boring{}})},
		{groundCalls(with1(boring("B", 0, 0))), groundCalls(with1(boring("B", 0, 0, []api.Layer{}...)))},
		{gridCalls(example(), frame(0, 0, 100, 1, 1)), gridCalls(example(), with(frame(0, 0, 100, 1, 1), []int{}...))},
		{frontCalls(wall(), frame(0, 0, 100, 1, 1)), frontCalls(wall(), with(frame(0, 0, 100, 1, 1), []int{}...))},
		{sampleCalls(nil), sampleCalls(none)},
		{{"Worst": of(soil.Worst(nil, nil, r))}, {"Worst": of(soil.Worst(none, []api.Standard{}, r))}},
		{{"Class": of(soil.Class(nil, standard("a"), r))}, {"Class": of(soil.Class(none, standard("a", []int{}...), r))}},
		{{"Chosen": of(soil.Chosen(nil, nil, 5, 0))}, {"Chosen": of(soil.Chosen(none, []api.Point{}, 5, 0))}},
		{{"Ranked": of(soil.Ranked(nil, r))}, {"Ranked": of(soil.Ranked([]int{}, r))}},
	} {
		for name, got := range pair[0] {
			same(t, got, pair[1][name], name)
		}
	}
}

// R2 and R4: the ends of the range of int everywhere, and results that are the same again.
func TestP69AnyArguments(t *testing.T) {
	ends := []int{math.MinInt, math.MinInt + 1, -1, 0, 1, 100, math.MaxInt - 1, math.MaxInt}
	g, m := example(), row(-500, -650)
	for _, a := range ends {
		for _, b := range ends {
			soil.Nearest(g, at(a, b))
			soil.At(g, at(0, a), b)
			soil.Column(g, at(0, 0), a, b)
			soil.Allowed(g, m, a, b)
			soil.Bulked(sand(), a, b)
			soil.Mass(sand(), a, b)
			soil.Bulked(kind("a", a, b, b, a), 5, b)
			soil.Bulked(kind("a", 1, 1, a, b), b, a)
			soil.Ranked([]int{a, b}, rule(1, 1, 1))
			soil.Class(lot("a", 1), standard("a", a, b), rule(1, 1, 1))
			soil.Worst(lot("a", a, b), []api.Standard{standard("a", b, a)}, rule(1, 1, 1))
			soil.Chosen(lot("a", 1), points(0, 0, 5, 0, 5, 5), a, b)
			soil.Chosen(lot("a", 1), points(a, b, b, a, 5, 5), 5, 0)
			groundCalls(api.Ground{Soils: soils(a, b), Borings: g.Borings})
			groundCalls(with1(boring("B", a, b, layer(b, "mud"), layer(a, "sand"))))
			quayCalls(quay(a, b, b, a, 0, 1))
			for _, c := range ends {
				gridCalls(g, with(frame(a, b, c, 1, 1), 0))
				gridCalls(g, with(frame(0, 0, a, b, c), 0))
				gridCalls(g, row(a, b, c))
				quayCalls(quay(a, b, 0, 0, c, a))
				frontCalls(wall(), with(frame(a, b, c, 1, 1), 0))
				frontCalls(wall(), row(a, b, c))
				soil.Ranked([]int{5, 6}, rule(a, b, c))
				sampleCalls([]api.Sample{sample("a", "a", a, b, c, a, b), sample("b", "b", 0, 0, a, b, c)})
			}
		}
	}
	first, _ := soil.Shares(g, row(-500, -500), row(-900, -900))
	for range 20 {
		again, _ := soil.Shares(g, row(-500, -500), row(-900, -900))
		sameList(t, again, first, "Shares again")
	}
}
