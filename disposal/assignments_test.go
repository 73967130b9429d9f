package disposal_test

import (
	"math"
	"slices"
	"testing"

	"draghead/api"
	"draghead/disposal"
)

func TestP96Examples(t *testing.T) {
	x, cut, e := disposal.Assign(example(), batches())
	same(t, e, api.OK, "Assign")
	same(t, len(cut), 0, "no cut")
	same(t, isAssignment(example(), batches(), x), true, "an assignment", x)
	same(t, disposal.CheckShares(example(), batches(), x), api.OK, "CheckShares", x)
	same(t, disposal.CheckShares(example(), batches(), shares()), api.OK, "CheckShares")
	x, cut, e = disposal.Assign(example(), four())
	same(t, e, api.ErrCapacity, "Assign")
	same(t, len(x), 0, "no assignment")
	same(t, isCut(example(), four(), cut), true, "a cut", cut)
	same(t, disposal.CheckCut(example(), four(), cut), api.OK, "CheckCut", cut)
	same(t, disposal.CheckCut(example(), four(), []int{3, 4}), api.OK, "CheckCut")
	same(t, of(disposal.Cheapest(example(), four())), refused(api.ErrCapacity), "Cheapest")
}

func TestP96ListErrors(t *testing.T) {
	long := make([]api.Batch, api.MaxBatches+1)
	for k := range long {
		long[k] = batch(k+10, 0, "sand", 0)
	}
	for k, x := range []struct {
		want api.Errno
		l    []api.Batch
	}{
		{api.ErrLarge, long},
		{api.ErrLarge, make([]api.Batch, api.MaxBatches+1)}, // before ErrRange
		{api.ErrRange, make([]api.Batch, api.MaxBatches)},
		{api.ErrExists, []api.Batch{batch(2, 1, "sand", 0), batch(3, 1, "silt", 0), batch(2, 1, "silt", 1)}},
		{api.ErrExists, []api.Batch{batch(1, 1, "silt", 0)}}, // there is a deposit of it
		{api.ErrExists, []api.Batch{batch(2, 1, "sand", 0), batch(1, 1, "silt", 0), {}}},
		{api.ErrRange, []api.Batch{batch(2, 1, "sand", 0), {}, batch(1, 1, "silt", 0)}}, // the first batch that is wrong
		{api.ErrMissing, []api.Batch{batch(1, 1, "rock", 0)}},                           // before ErrExists
		{api.ErrRange, []api.Batch{batch(2, 1, "sand", 0), batch(2, 1, "sand", 10)}},
	} {
		allRefused(t, jobCalls(begun(), x.l), x.want, k, x)
	}
	x, _, e := disposal.Assign(begun(), long[:api.MaxBatches])
	same(t, e, api.OK, "Assign twelve batches of nothing")
	same(t, len(x), 0, "no shares", x)
}

// Assignments whose parts all can tell: there is only one.
func TestP96Only(t *testing.T) {
	chain := plain(box("a", 4, 5, 0, 1), box("b", 6, 1, 1, 2), box("c", 3, 9, 2))
	rested := example()
	rested.Carry = []int{3, 1}
	for _, x := range []struct {
		s    api.Yard
		l    []api.Batch
		want []api.Allot
	}{
		{example(), nil, nil},
		{example(), []api.Batch{}, nil},
		{api.Yard{}, nil, nil},
		{plain(), loads(0, 5), nil},
		{plain(box("a", 1, 0, 3)), loads(0, 5, 1, 3), []api.Allot{allot(2, "a", 1)}},
		{chain, loads(4, 0, 6, 1, 3, 2), []api.Allot{allot(1, "a", 4), allot(2, "b", 6), allot(3, "c", 3)}},
		{chain, loads(3, 0, 3, 1, 7, 2), nil},
		{chain, loads(4, 0, 3, 1, 6, 2), nil},
		// In the order of the list and of the pits, whatever the numbers and names are.
		{plain(box("z", 2, 9, 0), box("a", 3, 1, 0)), []api.Batch{batch(9, 5, "s", 0)}, []api.Allot{allot(9, "z", 2), allot(9, "a", 3)}},
		{plain(box("z", 2, 9, 0), box("a", 3, 1, 1)), []api.Batch{batch(9, 3, "s", 1), batch(4, 2, "s", 0)}, []api.Allot{allot(9, "a", 3), allot(4, "z", 2)}},
		// One soil after another, each one from its remainder.
		{rested, []api.Batch{batch(1, 1, "silt", 1), batch(2, 1, "sand", 1), batch(3, 1, "silt", 1), batch(4, 1, "sand", 1)}, []api.Allot{allot(1, "Deep", 2), allot(2, "Deep", 2), allot(3, "Deep", 1), allot(4, "Deep", 1)}},
		{having(example(), deposit(9, "Clean", 999999), deposit(8, "Deep", 1999999)), []api.Batch{batch(1, 1, "silt", 1), batch(2, 1, "sand", 0)}, []api.Allot{allot(1, "Deep", 1), allot(2, "Clean", 1)}},
	} {
		got, cut, e := disposal.Assign(x.s, x.l)
		if sumOf(x.s, x.l) > 0 && x.want == nil { // several assignments
			same(t, isAssignment(x.s, x.l, got), true, "an assignment", x, got)
			continue
		}
		same(t, e, api.OK, "Assign", x)
		same(t, len(cut), 0, "no cut", x)
		sameList(t, got, x.want, "Assign", x)
		f, e := disposal.Cheapest(x.s, x.l)
		same(t, e, api.OK, "Cheapest", x)
		sameList(t, f.Allots, x.want, "Cheapest", x)
	}
}

func TestP96Cuts(t *testing.T) {
	chain := plain(box("a", 4, 5, 0, 1), box("b", 6, 1, 1, 2), box("c", 3, 9, 2))
	for _, x := range []struct {
		s    api.Yard
		l    []api.Batch
		want []int
	}{
		{plain(), loads(1, 5), []int{1}},
		{plain(box("a", 1, 0, 3)), loads(1, 5, 1, 3), []int{1}},
		{plain(box("a", 1, 0, 3)), loads(2, 3, 0, 3), []int{1}}, // a batch of nothing is nowhere
		{plain(box("a", 9, 0, 3), box("b", 1, 0, 4)), loads(5, 3, 2, 4), []int{2}},
		{chain, loads(5, 0, 6, 1, 3, 2), []int{1}},
		{chain, loads(1, 0, 1, 1, 10, 2), []int{3}},
		{plain(box("a", 4, 0, 0), box("b", 4, 0, 1)), []api.Batch{batch(7, 3, "s", 0), batch(5, 1, "s", 1), batch(2, 2, "s", 0)}, []int{2, 7}},
	} {
		got, cut, e := disposal.Assign(x.s, x.l)
		same(t, e, api.ErrCapacity, "Assign", x)
		same(t, len(got), 0, "no assignment", x)
		sameList(t, cut, x.want, "Assign: the cut", x)
		same(t, of(disposal.Cheapest(x.s, x.l)), refused(api.ErrCapacity), "Cheapest", x)
	}
}

func TestP96CheckShares(t *testing.T) {
	reversed := shares()
	slices.Reverse(reversed)
	same(t, disposal.CheckShares(example(), batches(), reversed), api.OK, "in any order")
	same(t, disposal.CheckShares(example(), nil, nil), api.OK, "without batches")
	same(t, disposal.CheckShares(example(), nil, []api.Allot{}), api.OK, "without batches")
	same(t, disposal.CheckShares(plain(), loads(0, 5), nil), api.OK, "a batch of nothing")
	change := func(k int, x api.Allot) []api.Allot {
		l := shares()
		l[k] = x
		return l
	}
	for k, l := range [][]api.Allot{
		nil, shares()[:3], shares()[1:],
		change(0, allot(1, "Clean", 500000)), // too little
		change(0, allot(1, "Clean", 500002)), // too much
		change(2, allot(2, "Deep", 1)), change(2, allot(2, "Deep", 3)), change(2, allot(2, "Deep", 0)), change(2, allot(2, "Deep", -2)),
		change(0, allot(4, "Clean", 500001)), change(0, allot(1, "Other", 500001)), change(0, allot(1, "", 500001)), change(0, allot(0, "Clean", 500001)),
		change(3, allot(3, "Clean", 1200000)), // the class
		append(shares(), allot(1, "Deep", 0)), append(shares(), allot(1, "Deep", 1)), append(shares(), allot(9, "Deep", 1)),
		append(change(3, allot(3, "Deep", 1199999)), allot(3, "Deep", 1)), // a pair twice
		append(shares()[:3], allot(3, "Deep", 1200001), allot(3, "Deep", -1)),
		{allot(1, "Deep", 500001), allot(2, "Deep", 500001), allot(3, "Deep", 1200000)},   // too much for the pit
		{allot(1, "Clean", 500001), allot(2, "Clean", 500001), allot(3, "Deep", 1200000)}, // by two
		{allot(1, "Clean", 500001), allot(2, "Clean", 499999), allot(2, "Deep", math.MaxInt), allot(3, "Deep", 1200000)},
		{allot(1, "Clean", math.MinInt), allot(1, "Deep", math.MinInt), allot(2, "Deep", 500001), allot(3, "Deep", 1200000)},
		append(shares(), shares()...),
	} {
		same(t, disposal.CheckShares(example(), batches(), l), api.ErrProof, "CheckShares", k, l)
		f := freight()
		f.Allots = l
		same(t, disposal.CheckCheapest(example(), batches(), f), api.ErrProof, "CheckCheapest", k, l)
	}
	// What lies in the pits already takes room.
	s := having(example(), deposit(9, "Deep", 799998))
	same(t, disposal.CheckShares(s, batches(), shares()), api.OK, "just enough room")
	s.Deposits[0].Volume++
	same(t, disposal.CheckShares(s, batches(), shares()), api.ErrProof, "too little room")
}

func TestP96CheckCut(t *testing.T) {
	for _, l := range [][]int{{3, 4}, {4, 3}, {1, 3, 4, 2}} {
		same(t, disposal.CheckCut(example(), four(), l), api.OK, "CheckCut", l)
	}
	for _, l := range [][]int{
		nil, {}, {3}, {4}, {1, 2}, {1, 2, 3}, {1, 3}, {3, 3}, {3, 4, 3}, {3, 4, 4}, {3, 4, 5}, {0, 3, 4}, {-3, 3, 4}, {math.MaxInt, 3, 4}, {3, 4, math.MinInt}, {1, 1, 1, 1, 1, 1, 1},
	} {
		same(t, disposal.CheckCut(example(), four(), l), api.ErrProof, "CheckCut", l)
	}
	for _, x := range []struct {
		want api.Errno
		s    api.Yard
		l    []api.Batch
		cut  []int
	}{
		{api.ErrProof, plain(box("a", 5, 0, 0)), loads(5, 0), []int{1}}, // just as much
		{api.OK, plain(box("a", 5, 0, 0)), loads(6, 0), []int{1}},
		{api.ErrProof, plain(box("a", 5, 0, 0)), loads(0, 9), []int{1}},
		{api.ErrProof, api.Yard{}, nil, nil},
		{api.OK, plain(box("a", 5, 0, 0), box("b", 9, 0, 2)), loads(6, 0, 0, 1), []int{1, 2}}, // nothing that no pit accepts
		{api.ErrProof, plain(box("a", 5, 0, 0), box("b", 9, 0, 2)), loads(6, 0, 0, 2), []int{1, 2}},
		{api.OK, plain(box("a", 5, 0, 0, 1), box("b", 1, 0, 1)), loads(3, 0, 4, 1), []int{1, 2}}, // a pit counts once
		{api.ErrProof, plain(box("a", 5, 0, 0, 1), box("b", 2, 0, 1)), loads(3, 0, 4, 1), []int{1, 2}},
		{api.OK, having(plain(box("a", 5, 0, 0)), deposit(9, "a", 1)), loads(5, 0), []int{1}}, // what has been taken is no room
	} {
		same(t, disposal.CheckCut(x.s, x.l, x.cut), x.want, "CheckCut", x)
	}
}

// Greatest volumes: many batches and pits that pass them on to each other.
func TestP96Greatest(t *testing.T) {
	var l []api.Batch
	s := api.Yard{Bulking: []api.Bulking{factor("s", 10, 1)}, Carry: []int{0}}
	for k := range api.MaxBatches {
		l = append(l, batch(k+1, mostBed, "s", k%9))
	}
	for k := range api.MaxPits {
		s.Pits = append(s.Pits, pit(letter(k), widest, -highest, highest, 10000-k, k, k+1))
	}
	x, _, e := disposal.Assign(s, l)
	same(t, e, api.OK, "Assign")
	same(t, isAssignment(s, l, x), true, "an assignment", x)
	f, e := disposal.Cheapest(s, l)
	same(t, e, api.OK, "Cheapest")
	same(t, disposal.CheckCheapest(s, l, f), api.OK, "CheckCheapest", f)
	for k := range s.Pits {
		s.Pits[k].Top = -highest + 5000*(k+1)
	}
	_, cut, e := disposal.Assign(s, l)
	same(t, e, api.ErrCapacity, "Assign")
	same(t, isCut(s, l, cut), true, "a cut", cut)
	same(t, disposal.CheckCut(s, l, cut), api.OK, "CheckCut", cut)
}
