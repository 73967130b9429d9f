package disposal_test

import (
	"maps"
	"math"
	"slices"
	"testing"

	"draghead/api"
	"draghead/disposal"
)

// Nothing is lost by bulking, in whatever pits the batches of a soil are placed, and whatever is placed between them.
func TestP99NothingLost(t *testing.T) {
	s := &numbers{991}
	for range 300 {
		y := s.yard()
		for k := range y.Pits {
			y.Pits[k].Area += 1000
		}
		first := slices.Clone(y.Carry)
		in, out := map[string]int{}, map[string]int{}
		for _, b := range s.list(y, 20) {
			pit, e := disposal.Choose(y, b)
			if e != api.OK {
				continue
			}
			next, e := disposal.Place(y, b, pit)
			same(t, e, api.OK, "Choose's pit takes it", y, b, pit)
			in[b.Soil] += b.Bed - b.Overflow
			out[b.Soil] += next.Deposits[len(next.Deposits)-1].Volume
			y = next
		}
		for k, f := range y.Bulking {
			same(t, f.Factor.Den*out[f.Soil]+y.Carry[k], f.Factor.Num*in[f.Soil]+first[k], "nothing is lost", y, f)
		}
		same(t, disposal.Check(y), api.OK, "Check", y)
	}
}

// Placing one after another and telling the bulked volumes of a list is the same.
func TestP99OneAfterAnother(t *testing.T) {
	s := &numbers{992}
	for range 300 {
		y := s.yard()
		clear(y.Carry)
		for k := range y.Pits {
			y.Pits[k].Area += 1000
		}
		var l []api.Batch
		for _, b := range s.list(y, 12) {
			if pit, e := disposal.Choose(y, b); e == api.OK {
				y, _ = disposal.Place(y, b, pit)
				l = append(l, b)
			}
		}
		got, e := disposal.Balance(y, l)
		same(t, e, api.OK, "Balance", y, l)
		same(t, got.Placed, got.Bulked, "all is placed", y, l)
	}
}

// What Reasons names does not take the batch, and whatever else does.
func TestP99Reasons(t *testing.T) {
	s := &numbers{993}
	nowhere := 0
	for range 1000 {
		y := s.yard()
		b := s.list(y, 1)[0]
		reasons, e := disposal.Reasons(y, b)
		same(t, e, api.OK, "Reasons", y, b)
		var want []api.Refused
		best := api.Pit{Price: math.MaxInt}
		for _, p := range y.Pits {
			if _, e := disposal.Place(y, b, p.Name); e != api.OK {
				want = append(want, refusedBy(p.Name, e))
			} else if p.Price < best.Price {
				best = p
			}
		}
		sameList(t, reasons, want, "Reasons", y, b)
		pit, e := disposal.Choose(y, b)
		same(t, pit, best.Name, "Choose", y, b)
		same(t, e == api.ErrNone, len(reasons) == len(y.Pits), "Choose: the error", y, b)
		if e != api.OK {
			nowhere++
		}
	}
	same(t, nowhere > 100 && nowhere < 900, true, "there is enough of both", nowhere)
}

// An assignment or a cut is always there, and both exclude each other.
func TestP99AssignmentOrCut(t *testing.T) {
	s := &numbers{994}
	assigned, cuts := 0, 0
	for range 600 {
		y := s.yard()
		l := s.list(y, s.next(10))
		x, cut, e := disposal.Assign(y, l)
		f, other := disposal.Cheapest(y, l)
		same(t, other, e, "Cheapest: the error", y, l)
		if e == api.OK {
			assigned++
			same(t, isAssignment(y, l, x), true, "an assignment", y, l, x)
			same(t, inOrder(y, l, x), true, "in order", y, l, x)
			same(t, len(cut), 0, "no cut beside it", y, l, cut)
			same(t, hasCut(y, l), false, "there is no cut", y, l)
			same(t, disposal.CheckShares(y, l, x), api.OK, "CheckShares", y, l, x)
			same(t, disposal.CheckCut(y, l, numbersOf(l)), api.ErrProof, "CheckCut of all", y, l)
			same(t, isCheapest(y, l, f), true, "the cheapest one", y, l, f)
			same(t, inOrder(y, l, f.Allots), true, "in order", y, l, f)
			same(t, disposal.CheckCheapest(y, l, f), api.OK, "CheckCheapest", y, l, f)
			continue
		}
		cuts++
		same(t, e, api.ErrCapacity, "Assign", y, l)
		same(t, len(x), 0, "no assignment beside it", y, l, x)
		same(t, isCut(y, l, cut), true, "a cut", y, l, cut)
		same(t, slices.IsSorted(cut), true, "ascending", y, l, cut)
		same(t, disposal.CheckCut(y, l, cut), api.OK, "CheckCut", y, l, cut)
		same(t, isEmptyFreight(f), true, "nothing beside the error", y, l, f)
	}
	same(t, assigned > 100 && cuts > 100, true, "there is enough of both", assigned, cuts)
}

func isEmptyFreight(f api.Freight) bool { return of(f, api.OK).empty }

// inOrder reports whether shares are ordered by the batches in the list and then by the pits.
func inOrder(s api.Yard, l []api.Batch, x []api.Allot) bool {
	return slices.IsSortedFunc(x, func(a, b api.Allot) int {
		return 100*(indexOf(l, a.Batch)-indexOf(l, b.Batch)) + indexOfPit(s, a.Pit) - indexOfPit(s, b.Pit)
	})
}

func indexOf(l []api.Batch, number int) int { return slices.Index(numbersOf(l), number) }

func indexOfPit(s api.Yard, name string) int {
	return slices.IndexFunc(s.Pits, func(p api.Pit) bool { return p.Name == name })
}

func numbersOf(l []api.Batch) []int {
	var out []int
	for _, b := range l {
		out = append(out, b.Number)
	}
	return out
}

// The cost is the least one of all ways to put the batches into the pits.
func TestP99NoCheaper(t *testing.T) {
	s := &numbers{995}
	several := 0
	for range 600 {
		y := s.yard()
		y.Pits = y.Pits[:min(len(y.Pits), 4)]
		y.Deposits = nil
		for k := range y.Pits {
			y.Pits[k].Area, y.Pits[k].Top = 1+s.next(8), y.Pits[k].Base+1
		}
		l := s.list(y, s.next(6))
		for k := range l {
			l[k].Bed = min(l[k].Bed, 3)
			l[k].Overflow = min(l[k].Overflow, l[k].Bed)
		}
		want, is := leastCost(y, l)
		f, e := disposal.Cheapest(y, l)
		same(t, e == api.OK, is, "Cheapest: the error", y, l)
		if is {
			same(t, f.Cost, want, "the cost", y, l)
			same(t, disposal.CheckCheapest(y, l, f), api.OK, "CheckCheapest", y, l, f)
			if len(f.Allots) > 2 {
				several++
			}
		}
	}
	same(t, several > 50, true, "there are assignments", several)
}

// Large yards: the tariffs prove what cannot be tried.
func TestP99LargeYards(t *testing.T) {
	s := &numbers{996}
	assigned, cuts := 0, 0
	for range 600 {
		y := s.yard()
		for k := range y.Pits {
			y.Pits[k].Area, y.Pits[k].Base, y.Pits[k].Top = 1+s.next(widest), -s.next(highest), 1+s.next(highest)
			y.Pits[k].Price = s.next(10001)
		}
		l := s.list(y, 12)
		for k := range l {
			l[k].Bed = s.next(1+s.next(mostBed)) * (1 + s.next(100)) / 100
			l[k].Overflow = s.next(l[k].Bed + 1)
		}
		_, cut, e := disposal.Assign(y, l)
		if e != api.OK {
			cuts++
			same(t, isCut(y, l, cut), true, "a cut", y, l, cut)
			same(t, disposal.CheckCut(y, l, cut), api.OK, "CheckCut", y, l, cut)
			continue
		}
		assigned++
		f, e := disposal.Cheapest(y, l)
		same(t, e, api.OK, "Cheapest", y, l)
		same(t, isCheapest(y, l, f), true, "the cheapest one", y, l, f)
		same(t, disposal.CheckCheapest(y, l, f), api.OK, "CheckCheapest", y, l, f)
	}
	same(t, assigned > 50 && cuts > 50, true, "there is enough of both", assigned, cuts)
}

// bent is a freight with a few numbers changed.
func (s *numbers) bent(f api.Freight) api.Freight {
	f.Allots = slices.Clone(f.Allots)
	f.Tariff = tariff(slices.Clone(f.Tariff.Batches), slices.Clone(f.Tariff.Pits)...)
	for range 1 + s.next(3) {
		by := s.next(5) - 2
		switch s.next(5) {
		case 0:
			f.Cost += 10 * by
		case 1:
			if n := len(f.Tariff.Batches); n > 0 {
				f.Tariff.Batches[s.next(n)] += 5 * by
			}
		case 2:
			if n := len(f.Tariff.Pits); n > 0 {
				f.Tariff.Pits[s.next(n)] += 5 * by
			}
		case 3:
			if n := len(f.Allots); n > 0 {
				f.Allots[s.next(n)].Volume += by
			}
		default:
			if n := len(f.Allots); n > 1 {
				i, k := s.next(n), s.next(n)
				f.Allots[i].Volume, f.Allots[k].Volume = f.Allots[i].Volume+by, f.Allots[k].Volume-by
				if s.is(3) {
					f.Allots[i].Pit = f.Allots[k].Pit
				}
			}
		}
	}
	return f
}

// The checks accept what the definitions say, and nothing else.
func TestP99Checks(t *testing.T) {
	s := &numbers{997}
	shared, cheap, cuts, tried := 0, 0, 0, 0
	for range 1500 {
		y := s.yard()
		l := s.list(y, 1+s.next(7))
		if f, e := disposal.Cheapest(y, l); e == api.OK {
			f = s.bent(f)
			is := isAssignment(y, l, f.Allots)
			same(t, disposal.CheckShares(y, l, f.Allots) == api.OK, is, "CheckShares", y, l, f)
			isLeast := isCheapest(y, l, f)
			same(t, disposal.CheckCheapest(y, l, f) == api.OK, isLeast, "CheckCheapest", y, l, f)
			shared, cheap = shared+count(is), cheap+count(isLeast)
		}
		var cut []int
		for _, b := range l {
			if !s.is(3) {
				cut = append(cut, b.Number)
			}
		}
		is := isCut(y, l, cut)
		same(t, disposal.CheckCut(y, l, cut) == api.OK, is, "CheckCut", y, l, cut)
		cuts, tried = cuts+count(is), tried+1
	}
	same(t, shared > 50 && cheap > 20 && cuts > 100 && cuts < tried-100, true, "there is enough of all", shared, cheap, cuts, tried)
}

func count(is bool) int {
	if is {
		return 1
	}
	return 0
}

// wipe overwrites a list as far as its memory goes.
func wipe[T any](l []T) { clear(l[:cap(l)]) }

// wipeYard overwrites all lists of a yard.
func wipeYard(s api.Yard) {
	for _, p := range s.Pits {
		wipe(p.Classes)
	}
	wipe(s.Pits)
	wipe(s.Bulking)
	wipe(s.Deposits)
	wipe(s.Carry)
}

// roomy is a list with other elements behind its end.
func roomy[T any](l []T, behind T) []T {
	out := append(slices.Clone(l), behind, behind)
	return out[:len(l)]
}

// roomyYard is a yard of the examples, all of whose lists are roomy.
func roomyYard() api.Yard {
	s := begun()
	for k, p := range s.Pits {
		s.Pits[k].Classes = roomy(p.Classes, 7)
	}
	s.Pits = roomy(s.Pits, box("z", 7, 7))
	s.Bulking = roomy(s.Bulking, factor("z", 7, 7))
	s.Deposits = roomy(s.Deposits, deposit(7, "z", 7))
	s.Carry = roomy(s.Carry, 7)
	return s
}

// callAll calls everything that returns lists, and overwrites them.
func callAll(s api.Yard, l []api.Batch, x []api.Allot, cut []int, f api.Freight) {
	y, _ := disposal.New(s.Pits, s.Bulking)
	wipeYard(y)
	y, _ = disposal.Place(s, l[0], "Deep")
	wipeYard(y)
	layers, _ := disposal.Layers(s, "Clean")
	wipe(layers)
	reasons, _ := disposal.Reasons(s, l[0])
	wipe(reasons)
	disposal.Balance(s, l)
	allots, _, _ := disposal.Assign(s, l[:1])
	wipe(allots)
	_, numbers, _ := disposal.Assign(s, l)
	wipe(numbers)
	disposal.CheckShares(s, l, x)
	disposal.CheckCut(s, l, cut)
	g, _ := disposal.Cheapest(s, l[:1])
	wipe(g.Allots)
	wipe(g.Tariff.Batches)
	wipe(g.Tariff.Pits)
	disposal.CheckCheapest(s, l, f)
	text, _ := disposal.Print(s)
	y, _, _ = disposal.Parse(text)
	wipeYard(y)
}

// R3: results are overwritten here, and the arguments are what they were before.
func TestP99Memory(t *testing.T) {
	s := roomyYard()
	l := roomy(four()[1:], batch(7, 7, "z", 7))
	x := roomy(shares(), allot(7, "z", 7))
	cut := roomy([]int{4, 3}, 7)
	f := freight()
	f.Allots, f.Tariff = roomy(f.Allots, allot(7, "z", 7)), tariff(roomy(f.Tariff.Batches, 7), roomy(f.Tariff.Pits, 7)...)
	for range 2 { // what an earlier call gave back has no part in a later one
		callAll(s, l, x, cut, f)
		same(t, disposal.CheckCut(s, l, cut), api.OK, "CheckCut")
		same(t, disposal.Check(s), api.OK, "Check")
	}
	sameYard(t, s, begun(), "the yard")
	sameList(t, s.Pits[1].Classes[:4], []int{0, 1, 7, 7}, "the classes")
	same(t, s.Pits[:3][2].Name, "z", "the pits")
	same(t, s.Bulking[:3][2].Soil, "z", "the factors")
	sameList(t, s.Deposits[:3], []api.Deposit{deposit(1, "Clean", 500001), deposit(7, "z", 7), deposit(7, "z", 7)}, "the deposits")
	sameList(t, s.Carry[:4], []int{1, 0, 7, 7}, "the remainders")
	sameList(t, l[:4], append(four()[1:], batch(7, 7, "z", 7)), "the batches")
	sameList(t, x[:5], append(shares(), allot(7, "z", 7)), "the shares")
	sameList(t, cut[:3], []int{4, 3, 7}, "the cut")
	sameList(t, f.Allots[:5], append(shares(), allot(7, "z", 7)), "the freight")
	sameList(t, f.Tariff.Batches[:4], []int{500, 500, 500, 7}, "the tariff")
	sameList(t, f.Tariff.Pits[:3], []int{200, 0, 7}, "the tariff")
}

// The lists of one result share no memory with each other.
func TestP99OwnMemory(t *testing.T) {
	classes := []int{0, 1}
	y, _ := disposal.New([]api.Pit{box("a", 5, 0, classes...), box("b", 5, 0, classes...)}, factors(1))
	y.Pits[0].Classes[0] = 9
	same(t, y.Pits[1].Classes[0], 0, "the classes of New")
	y, _, _ = disposal.Parse(whole)
	y.Pits[0].Classes = append(y.Pits[0].Classes, 9)
	sameList(t, y.Pits[1].Classes, []int{0, 1}, "the classes of Parse")
}

// R5: a nil list and an empty one.
func TestP99Empty(t *testing.T) {
	bare := api.Yard{}
	empty := api.Yard{Pits: []api.Pit{}, Bulking: []api.Bulking{}, Deposits: []api.Deposit{}, Carry: []int{}}
	quiet := plain(api.Pit{Name: "a", Area: 1, Top: 1, Classes: []int{}})
	quiet.Deposits = []api.Deposit{}
	for k, pair := range [][2]map[string]answer{
		{yardCalls(bare), yardCalls(empty)}, {pitCalls(plain(box("a", 1, 0)), "a"), pitCalls(quiet, "a")},
		{batchCalls(plain(box("a", 1, 0)), batch(1, 1, "s", 0), "a"), batchCalls(quiet, batch(1, 1, "s", 0), "a")},
		{listCalls(bare, nil), listCalls(empty, []api.Batch{})}, {listCalls(plain(), nil), listCalls(plain(), []api.Batch{})},
	} {
		for name, got := range pair[0] {
			same(t, got, pair[1][name], name, k)
		}
	}
	for _, f := range []api.Freight{{}, {Allots: []api.Allot{}, Tariff: tariff([]int{})}, {Tariff: tariff(nil, []int{}...)}} {
		same(t, disposal.CheckCheapest(bare, nil, f), api.OK, "CheckCheapest", f)
		same(t, disposal.CheckCheapest(empty, []api.Batch{}, f), api.OK, "CheckCheapest", f)
	}
}

// R2 and R4: the ends of the range of int everywhere, and results that are the same again.
func TestP99AnyArguments(t *testing.T) {
	ends := []int{math.MinInt, math.MinInt + 1, -1, 0, 1, 100, math.MaxInt - 1, math.MaxInt}
	for _, a := range ends {
		for _, b := range ends {
			for _, c := range ends {
				anyYards(a, b, c)
				anyProofs(a, b, c)
			}
		}
	}
	for _, s := range []api.Yard{example(), begun()} {
		first, listed := yardCalls(s), listCalls(s, four()[1:])
		_, cut, _ := disposal.Assign(s, four()[1:])
		for range 5 {
			same(t, maps.Equal(yardCalls(s), first) && maps.Equal(listCalls(s, four()[1:]), listed), true, "the same again")
			_, again, _ := disposal.Assign(s, four()[1:])
			sameList(t, again, cut, "the same cut again")
		}
	}
}

func anyYards(a, b, c int) {
	for _, change := range []func(s *api.Yard){
		func(s *api.Yard) { s.Pits[0].Area, s.Pits[0].Base, s.Pits[0].Top = a, b, c },
		func(s *api.Yard) { s.Pits[0].Price, s.Pits[0].Classes = a, []int{b, c} },
		func(s *api.Yard) { s.Bulking[0], s.Carry[0] = factor("sand", a, b), c },
		func(s *api.Yard) { s.Deposits = []api.Deposit{deposit(a, "Clean", b), deposit(b, "Deep", c)} },
	} {
		s := example()
		change(&s)
		yardCalls(s)
		pitCalls(s, "Clean")
		listCalls(s, batches())
		disposal.New(s.Pits, s.Bulking)
	}
}

func anyProofs(a, b, c int) {
	s, l := example(), batches()
	other := overflowing(batch(a, b, "sand", 0), c)
	batchCalls(s, other, "Clean")
	batchCalls(s, batch(9, a, "sand", b), "Deep")
	listCalls(s, append(l, other, batch(b, c, "silt", a)))
	disposal.CheckShares(s, l, []api.Allot{allot(1, "Clean", a), allot(1, "Deep", b), allot(2, "Deep", c)})
	disposal.CheckShares(s, l, []api.Allot{allot(a, "Clean", b), allot(c, "Deep", b)})
	disposal.CheckCut(s, l, []int{a, b, c})
	f := freight()
	f.Cost = a
	disposal.CheckCheapest(s, l, f)
	f = freight()
	f.Tariff = tariff([]int{a, b, c}, c, b)
	disposal.CheckCheapest(s, l, f)
}
