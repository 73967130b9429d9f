package disposal_test

import (
	"math"
	"math/big"
	"testing"

	"draghead/api"
	"draghead/disposal"
)

// wrongBatch is a batch with an error.
type wrongBatch struct {
	want  api.Errno
	batch api.Batch
}

func wrongBatches() []wrongBatch {
	return []wrongBatch{
		{api.ErrRange, api.Batch{}},
		{api.ErrRange, batch(0, 1, "sand", 0)},
		{api.ErrRange, batch(-1, 1, "sand", 0)},
		{api.ErrRange, batch(greatest+1, 1, "sand", 0)},
		{api.ErrRange, batch(math.MinInt, 1, "?", 0)}, // before ErrMissing
		{api.ErrRange, batch(1, -1, "sand", 0)},
		{api.ErrRange, batch(1, mostBed+1, "sand", 0)},
		{api.ErrRange, batch(1, math.MaxInt, "?", 0)},
		{api.ErrRange, batch(1, math.MinInt, "sand", 0)},
		{api.ErrRange, overflowing(batch(1, 5, "sand", 0), -1)},
		{api.ErrRange, overflowing(batch(1, 5, "sand", 0), 6)},
		{api.ErrRange, overflowing(batch(1, 0, "", 0), 1)},
		{api.ErrRange, overflowing(batch(1, -5, "sand", 0), -5)},
		{api.ErrRange, overflowing(batch(1, 5, "sand", 0), math.MaxInt)},
		{api.ErrMissing, batch(1, 5, "", 0)},
		{api.ErrMissing, batch(1, 5, "Sand", 0)},
		{api.ErrMissing, batch(1, 5, "rock", -1)}, // before ErrRange of the class
		{api.ErrRange, batch(1, 5, "sand", -1)},
		{api.ErrRange, batch(1, 5, "silt", 10)},
		{api.ErrRange, batch(1, 5, "silt", math.MinInt)},
	}
}

func TestP92CheckBatch(t *testing.T) {
	for k, x := range wrongBatches() {
		s := having(example(), deposit(1, "Deep", 2000000))
		allRefused(t, batchCalls(s, x.batch, "?"), x.want, k, x)
		allRefused(t, listCalls(s, []api.Batch{x.batch}), x.want, k, x)
		allRefused(t, listCalls(s, []api.Batch{batch(9, 1, "silt", 0), x.batch, x.batch}), x.want, k, x)
	}
	for _, b := range append(four(),
		batch(greatest, 0, "sand", 9), batch(1, mostBed, "silt", 0), overflowing(batch(1, mostBed, "silt", 5), mostBed), overflowing(batch(1, 7, "silt", 5), 7),
	) {
		for _, s := range []api.Yard{example(), begun()} { // deposits do not matter
			same(t, disposal.CheckBatch(s, b), api.OK, "CheckBatch", b)
		}
	}
	same(t, disposal.CheckBatch(api.Yard{}, batch(1, 1, "sand", 0)), api.ErrMissing, "CheckBatch without factors")
}

func TestP92Bulked(t *testing.T) {
	wide := example()
	wide.Bulking = []api.Bulking{factor("sand", 10000, 1000), factor("silt", 9999, 1000)}
	wide.Carry = []int{999, 999}
	third := plain()
	third.Bulking[0], third.Carry[0] = factor("s", 1, 3), 2
	for _, x := range []struct {
		s           api.Yard
		b           api.Batch
		volume, end int
	}{
		{example(), batch(1, 400001, "sand", 0), 500001, 1},
		{begun(), batch(2, 400001, "sand", 0), 500001, 2},
		{begun(), batch(1, 400001, "sand", 0), 500001, 2}, // though it has a deposit
		{begun(), batch(3, 800000, "silt", 1), 1200000, 0},
		{example(), overflowing(batch(4, 900000, "silt", 1), 100000), 1200000, 0},
		{example(), overflowing(batch(4, 7, "silt", 1), 6), 1, 1},
		{example(), overflowing(batch(4, 7, "silt", 1), 7), 0, 0},
		{begun(), batch(4, 0, "sand", 1), 0, 1},
		{third, batch(1, 0, "s", 0), 0, 2},
		{third, batch(1, 1, "s", 0), 1, 0},
		{third, batch(1, 2, "s", 0), 1, 1},
		{third, batch(1, 3, "s", 0), 1, 2},
		{wide, batch(1, mostBed, "sand", 0), 10 * mostBed, 999},
		{wide, batch(1, mostBed, "silt", 0), 9999000000000, 999},
	} {
		volume, end, e := disposal.Bulked(x.s, x.b)
		same(t, e, api.OK, "Bulked", x)
		same(t, volume, x.volume, "Bulked", x)
		same(t, end, x.end, "Bulked: the next remainder", x)
	}
}

// bulkedOf is the bulked volume and the next remainder with numbers of any size.
func bulkedOf(f api.Frac, b api.Batch, rest int) (int, int) {
	n := new(big.Int).Mul(big.NewInt(int64(b.Bed-b.Overflow)), big.NewInt(int64(f.Num)))
	volume, end := new(big.Int).DivMod(n.Add(n, big.NewInt(int64(rest))), big.NewInt(int64(f.Den)), new(big.Int))
	return int(volume.Int64()), int(end.Int64())
}

func TestP92AnySizes(t *testing.T) {
	s := &numbers{92}
	for range 3000 {
		den := 1 + s.next(1000)
		y := plain()
		y.Bulking[0], y.Carry[0] = factor("s", 1+s.next(10*den), den), s.next(den)
		b := batch(1, s.next(1+s.next(1000000))*(1+s.next(1000000)), "s", 0)
		b.Overflow = s.next(b.Bed + 1)
		volume, end, e := disposal.Bulked(y, b)
		same(t, e, api.OK, "Bulked", y, b)
		wantVolume, wantEnd := bulkedOf(y.Bulking[0].Factor, b, y.Carry[0])
		same(t, volume, wantVolume, "Bulked", y, b)
		same(t, end, wantEnd, "Bulked: the next remainder", y, b)
	}
}

func TestP95Balance(t *testing.T) {
	half := begun()
	half.Carry = []int{3, 1} // each soil begins with the remainder 0 all the same
	many := make([]api.Batch, api.MaxDeposits)
	for k := range many {
		many[k] = batch(k+1, mostBed, "sand", 9)
	}
	for _, x := range []struct {
		s    api.Yard
		l    []api.Batch
		want api.Balance
	}{
		{begun(), batches(), api.Balance{Bed: 1600002, Bulked: 2200002, Placed: 500001}},
		{begun(), four(), api.Balance{Bed: 2500002, Overflow: 100000, Bulked: 3400002, Placed: 500001}},
		{begun(), nil, api.Balance{}},
		{begun(), []api.Batch{}, api.Balance{}},
		{begun(), batches()[1:], api.Balance{Bed: 1200001, Bulked: 1700001}},
		{begun(), []api.Batch{batch(1, 0, "silt", 7)}, api.Balance{Placed: 500001}}, // whatever the deposit was made of
		{half, []api.Batch{batch(5, 1, "sand", 0), batch(6, 1, "silt", 0), batch(7, 1, "sand", 0), batch(8, 1, "silt", 0)}, api.Balance{Bed: 4, Bulked: 5}},
		{half, []api.Batch{batch(5, 1, "sand", 0), batch(6, 1, "sand", 0), batch(7, 1, "sand", 0), batch(8, 1, "sand", 0)}, api.Balance{Bed: 4, Bulked: 5}},
		{having(example(), deposit(1, "Clean", 1), deposit(2, "Deep", 20), deposit(3, "Clean", 300), deposit(4, "Deep", 4000)), []api.Batch{batch(4, 3, "sand", 0), batch(2, 3, "sand", 0), batch(5, 3, "sand", 0)}, api.Balance{Bed: 9, Bulked: 11, Placed: 4020}},
		{example(), many, api.Balance{Bed: 200 * mostBed, Bulked: 250 * mostBed}},
	} {
		got, e := disposal.Balance(x.s, x.l)
		same(t, e, api.OK, "Balance", x.l)
		same(t, got, x.want, "Balance", x.l)
	}
}

func TestP95Errors(t *testing.T) {
	for _, x := range []struct {
		want api.Errno
		l    []api.Batch
	}{
		{api.ErrLarge, make([]api.Batch, api.MaxDeposits+1)}, // before ErrRange
		{api.ErrRange, make([]api.Batch, api.MaxDeposits)},
		{api.ErrExists, append(batches(), batch(1, 0, "silt", 1))},
		{api.ErrExists, append(batches(), batch(2, 0, "silt", 1), api.Batch{})},        // the first batch that is wrong
		{api.ErrMissing, append(batches(), batch(2, 0, "rock", 1))},                    // before ErrExists
		{api.ErrRange, append(batches(), batch(2, 0, "sand", 10))},                     // before ErrExists
		{api.ErrRange, append(batches(), batch(4, 0, "sand", 10), batch(1, 0, "", 0))}, // the first batch that is wrong
	} {
		same(t, of(disposal.Balance(begun(), x.l)), refused(x.want), "Balance", x)
	}
}

func TestP95AnyBatches(t *testing.T) {
	s := &numbers{95}
	for range 300 {
		y := s.yard()
		l := s.list(y, s.next(30))
		for k, d := range y.Deposits { // some of the batches have deposits
			if k < len(l) && s.is(2) {
				l[k].Number = d.Batch
			}
		}
		var want api.Balance
		rests := map[string]int{}
		for _, b := range l {
			for _, f := range y.Bulking {
				if f.Soil == b.Soil {
					volume, end := bulkedOf(f.Factor, b, rests[b.Soil])
					want.Bulked += volume
					rests[b.Soil] = end
				}
			}
			for _, d := range y.Deposits {
				if d.Batch == b.Number {
					want.Placed += d.Volume
				}
			}
			want.Bed += b.Bed
			want.Overflow += b.Overflow
		}
		got, e := disposal.Balance(y, l)
		same(t, e, api.OK, "Balance", y, l)
		same(t, got, want, "Balance", y, l)
	}
}
