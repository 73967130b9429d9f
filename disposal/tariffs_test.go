package disposal_test

import (
	"math"
	"slices"
	"testing"

	"draghead/api"
	"draghead/disposal"
)

func TestP97Examples(t *testing.T) {
	f, e := disposal.Cheapest(example(), batches())
	same(t, e, api.OK, "Cheapest")
	same(t, f.Cost, 900001000, "the cost")
	same(t, isCheapest(example(), batches(), f), true, "the cheapest one", f)
	same(t, disposal.CheckCheapest(example(), batches(), f), api.OK, "CheckCheapest", f)
	same(t, disposal.CheckCheapest(example(), batches(), freight()), api.OK, "CheckCheapest")
}

func TestP97Costs(t *testing.T) {
	// What is cheap is needed by others, step by step.
	chain := plain(box("a", 5, 10, 0, 1), box("b", 5, 20, 1, 2), box("c", 5, 40, 2, 3), box("d", 5, 80, 3))
	for _, x := range []struct {
		s    api.Yard
		l    []api.Batch
		want int
	}{
		{example(), nil, 0},
		{api.Yard{}, nil, 0},
		{plain(), loads(0, 5), 0},
		{plain(box("a", 5, 0, 0)), loads(5, 0), 0},
		{chain, loads(5, 0), 50},
		{chain, loads(5, 1), 50},
		{chain, loads(5, 1, 5, 0), 150},
		{chain, loads(5, 2, 5, 1, 5, 0), 350},
		{chain, loads(5, 3, 5, 2, 5, 1, 5, 0), 750},
		{chain, loads(3, 3, 4, 2, 4, 1, 4, 0), 4*10 + 1*10 + 5*20 + 5*40},
		{chain, loads(3, 3, 5, 2, 5, 1, 5, 0), 5*10 + 5*20 + 5*40 + 3*80},
		{plain(box("a", 5, 30, 0), box("b", 5, 10, 0), box("c", 5, 20, 0)), loads(12, 0), 50 + 100 + 60},
		{plain(box("a", 5, 10000, 0), box("b", 5, 0, 0)), loads(6, 0), 10000},
		{plain(box("a", 5, 0, 0, 1), box("b", 5, 10000, 1)), loads(5, 1, 5, 0), 50000},
		{having(plain(box("a", 5, 0, 0), box("b", 5, 7, 0)), deposit(9, "a", 5)), loads(5, 0), 35}, // a pit that is full
	} {
		f, e := disposal.Cheapest(x.s, x.l)
		same(t, e, api.OK, "Cheapest", x)
		same(t, f.Cost, x.want, "the cost", x)
		same(t, isCheapest(x.s, x.l, f), true, "the cheapest one", x, f)
		same(t, disposal.CheckCheapest(x.s, x.l, f), api.OK, "CheckCheapest", x, f)
	}
}

// The greatest costs and tariffs stay in range.
func TestP97Greatest(t *testing.T) {
	var l []api.Batch
	s := api.Yard{Bulking: []api.Bulking{factor("s", 10, 1)}, Carry: []int{0}}
	for k := range api.MaxBatches {
		l = append(l, batch(k+1, mostBed, "s", 0))
	}
	for k := range api.MaxPits {
		s.Pits = append(s.Pits, pit(letter(k), widest, -highest, highest, 10000, 0))
	}
	f, e := disposal.Cheapest(s, l)
	same(t, e, api.OK, "Cheapest")
	same(t, f.Cost, 120*mostBed*10000, "the cost")
	same(t, isCheapest(s, l, f), true, "the cheapest one", f)
	same(t, disposal.CheckCheapest(s, l, f), api.OK, "CheckCheapest", f)
	f.Tariff = tariff(slices.Repeat([]int{20000}, 12), slices.Repeat([]int{20000}, 8)...)
	same(t, disposal.CheckCheapest(s, l, f), api.ErrProof, "CheckCheapest", f)
	f.Tariff = tariff(slices.Repeat([]int{0}, 12), slices.Repeat([]int{20000}, 8)...)
	same(t, disposal.CheckCheapest(s, l, f), api.ErrProof, "CheckCheapest", f)
}

func TestP97CheckCheapest(t *testing.T) {
	change := func(change func(f *api.Freight)) api.Freight {
		f := freight()
		change(&f)
		return f
	}
	for k, f := range []api.Freight{
		{}, {Cost: 900001000}, {Allots: shares(), Cost: 900001000},
		change(func(f *api.Freight) { f.Cost++ }),
		change(func(f *api.Freight) { f.Cost-- }),
		change(func(f *api.Freight) { f.Cost = 0 }),
		change(func(f *api.Freight) { f.Cost = math.MinInt }),
		change(func(f *api.Freight) { f.Allots = nil }),
		change(func(f *api.Freight) { f.Tariff.Batches = []int{500, 500} }),
		change(func(f *api.Freight) { f.Tariff.Batches = []int{500, 500, 500, 0} }),
		change(func(f *api.Freight) { f.Tariff.Batches = nil }),
		change(func(f *api.Freight) { f.Tariff.Pits = []int{200} }),
		change(func(f *api.Freight) { f.Tariff.Pits = []int{200, 0, 0} }),
		change(func(f *api.Freight) { f.Tariff.Pits[0] = 199 }), // a value of a batch is too great
		change(func(f *api.Freight) { f.Tariff.Pits[0] = 201 }), // it yields less
		change(func(f *api.Freight) { f.Tariff.Pits[1] = 1 }),
		change(func(f *api.Freight) { f.Tariff.Pits[1] = -1 }),
		change(func(f *api.Freight) { f.Tariff.Batches[2] = 499 }),
		change(func(f *api.Freight) { f.Tariff.Batches[2] = 501 }),
		change(func(f *api.Freight) { f.Tariff = tariff([]int{500, 500, 0}, 200, -300) }),
		change(func(f *api.Freight) { f.Tariff.Batches[0] = math.MinInt }),
		change(func(f *api.Freight) { f.Tariff.Pits[1] = math.MaxInt }),
		// Another assignment, that costs more, with its cost.
		change(func(f *api.Freight) {
			f.Allots = []api.Allot{allot(1, "Clean", 500001), allot(2, "Clean", 499998), allot(2, "Deep", 3), allot(3, "Deep", 1200000)}
			f.Cost += 200
		}),
	} {
		same(t, disposal.CheckCheapest(example(), batches(), f), api.ErrProof, "CheckCheapest", k, f)
	}
	same(t, disposal.CheckCheapest(example(), batches(), change(func(f *api.Freight) { slices.Reverse(f.Allots) })), api.OK, "in any order")
}

// What yields the cost is refused if a value is out of range, also where it matters to no pit.
func TestP97Values(t *testing.T) {
	full := having(plain(box("a", 5, 0, 0)), deposit(9, "a", 5))
	for _, x := range []struct {
		want api.Errno
		l    []api.Batch
		t    api.Tariff
	}{
		{api.OK, nil, tariff(nil, 0)},
		{api.OK, nil, tariff(nil, 20000)},
		{api.ErrProof, nil, tariff(nil, 20001)},
		{api.ErrProof, nil, tariff(nil, -1)},
		{api.OK, loads(0, 1), tariff([]int{0}, 20000)},
		{api.OK, loads(0, 1), tariff([]int{20000}, 0)}, // no pit accepts the batch
		{api.ErrProof, loads(0, 1), tariff([]int{20001}, 0)},
		{api.ErrProof, loads(0, 1), tariff([]int{-1}, 0)},
		{api.OK, loads(0, 0), tariff([]int{20000}, 20000)},
		{api.OK, loads(0, 0), tariff([]int{7}, 7)},
		{api.ErrProof, loads(0, 0), tariff([]int{8}, 7)}, // though there is nothing of it
	} {
		same(t, disposal.CheckCheapest(full, x.l, api.Freight{Tariff: x.t}), x.want, "CheckCheapest", x)
	}
}
