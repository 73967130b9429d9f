package disposal_test

import (
	"math"
	"slices"
	"testing"

	"draghead/api"
	"draghead/disposal"
)

// wrongYard is a yard with an error.
type wrongYard struct {
	want api.Errno
	yard api.Yard
}

// wrong is the yard of the examples with an error.
func wrong(want api.Errno, change func(s *api.Yard)) wrongYard {
	return wrongYard{want, yardWith(change)}
}

// wrongPit is that yard with another first pit, and wrongFactor with another first factor.
func wrongPit(want api.Errno, p api.Pit) wrongYard {
	return wrong(want, func(s *api.Yard) { s.Pits[0] = p })
}

func wrongFactor(want api.Errno, f api.Bulking) wrongYard {
	return wrong(want, func(s *api.Yard) { s.Bulking[0] = f })
}

// wrongDeposits is that yard with deposits.
func wrongDeposits(want api.Errno, l ...api.Deposit) wrongYard {
	return wrongYard{want, having(example(), l...)}
}

// pits are n pits, and factors n factors with other soils.
func pits(n int) []api.Pit {
	var out []api.Pit
	for k := range n {
		out = append(out, box(letter(k), 1, 0))
	}
	return out
}

func factors(n int) []api.Bulking {
	var out []api.Bulking
	for k := range n {
		out = append(out, factor(letter(k), 1, 1))
	}
	return out
}

// wrongPits have errors that do not depend on deposits or remainders.
func wrongPits() []wrongYard {
	return []wrongYard{
		wrong(api.ErrLarge, func(s *api.Yard) { s.Pits = pits(9) }),
		wrong(api.ErrLarge, func(s *api.Yard) { s.Pits = make([]api.Pit, 9) }), // before ErrName
		wrongPit(api.ErrName, api.Pit{}),
		wrongPit(api.ErrName, box("A-12345678901", 1, 0)),
		wrongPit(api.ErrName, box("1", 1, 0)),
		wrongPit(api.ErrName, box("-a", 1, 0)),
		wrongPit(api.ErrName, box("a b", 1, 0)),
		wrongPit(api.ErrName, box("a_b", 1, 0)),
		wrongPit(api.ErrName, box("a\u00e9", 1, 0)),
		wrongPit(api.ErrName, pit("", 0, 1, 0, -1, -1)), // before the others
		wrongPit(api.ErrExists, box("Deep", 1, 0)),
		wrong(api.ErrExists, func(s *api.Yard) { s.Pits[1] = pit("Clean", 0, 1, 0, -1, -1) }), // before ErrRange
		wrong(api.ErrExists, func(s *api.Yard) { s.Pits = append(s.Pits, box("Clean", 1, 0)) }),
		wrongPit(api.ErrRange, box("Clean", 0, 0)),
		wrongPit(api.ErrRange, box("Clean", widest+1, 0)),
		wrongPit(api.ErrRange, box("Clean", math.MinInt, 0)),
		wrongPit(api.ErrRange, box("Clean", math.MaxInt, 0)),
		wrongPit(api.ErrRange, pit("Clean", 1, -highest-1, 0, 0)),
		wrongPit(api.ErrRange, pit("Clean", 1, math.MinInt, math.MaxInt, 0)),
		wrongPit(api.ErrRange, pit("Clean", 1, 0, highest+1, 0)),
		wrongPit(api.ErrRange, pit("Clean", 1, highest+1, 0, 0)), // before ErrOrder
		wrongPit(api.ErrRange, pit("Clean", 1, 0, -highest-1, 0)),
		wrongPit(api.ErrRange, pit("Clean", 0, 0, 0, 0)),
		wrongPit(api.ErrOrder, pit("Clean", 1, 0, 0, 0)),
		wrongPit(api.ErrOrder, pit("Clean", 1, 0, -1, -1)), // before ErrRange of the price
		wrongPit(api.ErrOrder, pit("Clean", 1, highest, -highest, 10001)),
		wrongPit(api.ErrOrder, pit("Clean", 1, 0, 0, 0, -1)),
		wrongPit(api.ErrRange, box("Clean", 1, -1)),
		wrongPit(api.ErrRange, box("Clean", 1, 10001)),
		wrongPit(api.ErrRange, box("Clean", 1, math.MinInt)),
		wrongPit(api.ErrRange, box("Clean", 1, math.MaxInt, 1, 0)), // before ErrOrder of the classes
		wrongPit(api.ErrRange, box("Clean", 1, 0, -1)),
		wrongPit(api.ErrRange, box("Clean", 1, 0, 10)),
		wrongPit(api.ErrRange, box("Clean", 1, 0, 0, 1, 10)),
		wrongPit(api.ErrRange, box("Clean", 1, 0, 5, -1)), // before ErrOrder
		wrongPit(api.ErrRange, box("Clean", 1, 0, 10, 5)), // the first class that is wrong
		wrongPit(api.ErrRange, box("Clean", 1, 0, 0, 1, 2, 3, 4, 5, 6, 7, 8, 9, 10)),
		wrongPit(api.ErrOrder, box("Clean", 1, 0, 0, 0)),
		wrongPit(api.ErrOrder, box("Clean", 1, 0, 1, 0)),
		wrongPit(api.ErrOrder, box("Clean", 1, 0, 0, 5, 3, 4)),
		wrongPit(api.ErrOrder, box("Clean", 1, 0, 1, 0, 10)),
		wrong(api.ErrOrder, func(s *api.Yard) { s.Pits[0].Classes, s.Pits[1].Name = []int{1, 1}, "" }), // the first pit that is wrong
		wrong(api.ErrRange, func(s *api.Yard) { s.Pits[1].Area, s.Bulking[0].Soil = 0, "" }),
		wrong(api.ErrName, func(s *api.Yard) { s.Pits[1].Name, s.Bulking = "", factors(21) }),
	}
}

func wrongFactors() []wrongYard {
	return []wrongYard{
		wrong(api.ErrLarge, func(s *api.Yard) { s.Bulking, s.Carry = factors(21), make([]int, 21) }),
		wrong(api.ErrLarge, func(s *api.Yard) { s.Bulking = make([]api.Bulking, 21) }), // before ErrName
		wrongFactor(api.ErrName, api.Bulking{}),
		wrongFactor(api.ErrName, factor("A-12345678901", 1, 1)),
		wrongFactor(api.ErrName, factor("9", 1, 1)),
		wrongFactor(api.ErrName, factor("a.b", 0, 0)), // before ErrRange
		wrongFactor(api.ErrExists, factor("silt", 1, 1)),
		wrong(api.ErrExists, func(s *api.Yard) { s.Bulking[1] = factor("sand", 0, 0) }), // before ErrRange
		wrongFactor(api.ErrRange, factor("sand", 1, 0)),
		wrongFactor(api.ErrRange, factor("sand", 1, -1)),
		wrongFactor(api.ErrRange, factor("sand", 1, 1001)),
		wrongFactor(api.ErrRange, factor("sand", -10, -1)),
		wrongFactor(api.ErrRange, factor("sand", 1, math.MinInt)),
		wrongFactor(api.ErrRange, factor("sand", math.MaxInt, math.MaxInt)),
		wrongFactor(api.ErrRange, factor("sand", 0, 1)),
		wrongFactor(api.ErrRange, factor("sand", -1, 1)),
		wrongFactor(api.ErrRange, factor("sand", 11, 1)),
		wrongFactor(api.ErrRange, factor("sand", 41, 4)),
		wrongFactor(api.ErrRange, factor("sand", 10001, 1000)),
		wrong(api.ErrRange, func(s *api.Yard) { s.Bulking[0].Factor.Num, s.Bulking[1].Soil = 0, "" }), // the first factor that is wrong
		wrong(api.ErrRange, func(s *api.Yard) { s.Bulking[1].Factor.Num, s.Carry = 0, nil }),          // before ErrShape
	}
}

func wrongStates() []wrongYard {
	return []wrongYard{
		wrong(api.ErrShape, func(s *api.Yard) { s.Carry = nil }),
		wrong(api.ErrShape, func(s *api.Yard) { s.Carry = []int{0} }),
		wrong(api.ErrShape, func(s *api.Yard) { s.Carry = []int{9} }), // before ErrRange
		wrong(api.ErrShape, func(s *api.Yard) { s.Carry = []int{0, 0, 0} }),
		wrong(api.ErrShape, func(s *api.Yard) { s.Bulking = nil }),
		wrong(api.ErrRange, func(s *api.Yard) { s.Carry[0] = -1 }),
		wrong(api.ErrRange, func(s *api.Yard) { s.Carry[0] = 4 }),
		wrong(api.ErrRange, func(s *api.Yard) { s.Carry[1] = 2 }),
		wrong(api.ErrRange, func(s *api.Yard) { s.Carry[1] = math.MinInt }),
		wrong(api.ErrRange, func(s *api.Yard) { s.Carry[1], s.Deposits = math.MaxInt, deposits(201, "Clean") }), // before ErrLarge
		wrongDeposits(api.ErrLarge, deposits(201, "Clean")...),
		wrongDeposits(api.ErrLarge, make([]api.Deposit, 201)...), // before ErrRange
		wrongDeposits(api.ErrRange, deposit(0, "Clean", 0)),
		wrongDeposits(api.ErrRange, deposit(-1, "?", 0)), // before ErrMissing
		wrongDeposits(api.ErrRange, deposit(greatest+1, "Clean", 0)),
		wrongDeposits(api.ErrRange, deposit(math.MinInt, "Clean", 0)),
		wrongDeposits(api.ErrRange, deposit(1, "Clean", 0), deposit(math.MaxInt, "Clean", 0)),
		wrongDeposits(api.ErrExists, deposit(1, "Clean", 0), deposit(1, "Deep", 0)),
		wrongDeposits(api.ErrExists, deposit(1, "Clean", 0), deposit(2, "Clean", 0), deposit(1, "?", -1)), // before ErrMissing
		wrongDeposits(api.ErrMissing, deposit(1, "clean", 0)),
		wrongDeposits(api.ErrMissing, deposit(1, "", 0)),
		wrongDeposits(api.ErrMissing, deposit(1, "Clean", 0), deposit(2, "?", -1)), // before ErrRange
		wrongDeposits(api.ErrMissing, deposit(1, "?", 0), deposit(1, "Clean", 0)),  // the first deposit that is wrong
		wrongDeposits(api.ErrRange, deposit(1, "Clean", -1)),
		wrongDeposits(api.ErrRange, deposit(1, "Clean", mostPut+1)), // before ErrCapacity
		wrongDeposits(api.ErrRange, deposit(1, "Clean", math.MinInt)),
		wrongDeposits(api.ErrRange, deposit(1, "Clean", math.MaxInt), deposit(2, "Clean", math.MaxInt)),
		wrongDeposits(api.ErrRange, deposit(1, "Clean", -1), deposit(1, "?", 0)),
		wrongDeposits(api.ErrCapacity, deposit(1, "Clean", 1000001)),
		wrongDeposits(api.ErrCapacity, deposit(1, "Deep", 2000000), deposit(2, "Deep", 1)),
		wrongDeposits(api.ErrCapacity, deposit(1, "Clean", 400000), deposit(2, "Deep", 5), deposit(3, "Clean", 600001)),
		wrongDeposits(api.ErrCapacity, deposit(1, "Deep", mostPut)),
		wrongDeposits(api.ErrMissing, deposit(1, "Clean", 1000001), deposit(2, "?", 0)), // before ErrCapacity
		wrong(api.ErrCapacity, func(s *api.Yard) {
			s.Deposits = deposits(200, "Deep")
			for k := range s.Deposits {
				s.Deposits[k].Volume = mostPut
			}
		}),
	}
}

func TestP91Check(t *testing.T) {
	for _, l := range [][]wrongYard{wrongPits(), wrongFactors(), wrongStates()} {
		for k, x := range l {
			allRefused(t, yardCalls(x.yard), x.want, k, x)
		}
	}
	ten := []int{0, 1, 2, 3, 4, 5, 6, 7, 8, 9}
	for _, s := range []api.Yard{
		{}, example(), begun(),
		{Pits: pits(8)}, plain(), plain(pits(8)...),
		{Bulking: factors(20), Carry: make([]int, 20)},
		plain(box("a", 1, 0), box("A", 1, 0), box("a-", 1, 0), box("z-1234567890", 1, 0), box("Z", 1, 0)),
		plain(pit("a", widest, -highest, highest, 10000, ten...), pit("b", 1, highest-1, highest, 0, 9), pit("c", 1, -highest, -highest+1, 0, 0)),
		{Bulking: []api.Bulking{factor("a", 1, 1000), factor("A", 10000, 1000), factor("b", 2, 2), factor("z-1234567890", 10, 1)}, Carry: []int{999, 0, 1, 0}},
		having(example(), deposits(200, "Clean")...),
		having(example(), deposit(1, "Clean", 0), deposit(greatest, "Deep", 2000000), deposit(7, "Clean", 1000000)),
		having(plain(pit("a", widest, -highest, highest, 0)), deposit(1, "a", mostRoom)),
	} {
		same(t, disposal.Check(s), api.OK, "Check", s)
	}
}

func TestP91New(t *testing.T) {
	for k, x := range slices.Concat(wrongPits(), wrongFactors()) {
		same(t, of(disposal.New(x.yard.Pits, x.yard.Bulking)), refused(x.want), "New", k, x)
	}
	for _, s := range []api.Yard{{}, example(), {Pits: pits(8), Bulking: factors(20), Carry: make([]int, 20)}, plain()} {
		got, e := disposal.New(s.Pits, s.Bulking)
		same(t, e, api.OK, "New", s)
		sameYard(t, got, s, "New", s)
		same(t, disposal.Check(got), api.OK, "Check", s)
	}
}

// Each byte as the first one of a name, and as a later one, of pits and of soils.
func TestP91Names(t *testing.T) {
	for c := range 256 {
		isLetter := c >= 'A' && c <= 'Z' || c >= 'a' && c <= 'z'
		for name, is := range map[string]bool{
			string([]byte{byte(c)}):           isLetter,
			string([]byte{'x', byte(c)}):      isLetter || c >= '0' && c <= '9' || c == '-',
			string([]byte{'x', byte(c), 'x'}): isLetter || c >= '0' && c <= '9' || c == '-',
		} {
			want := api.OK
			if !is {
				want = api.ErrName
			}
			same(t, disposal.Check(plain(box(name, 1, 0))), want, "Check", name)
			_, e := disposal.New(nil, []api.Bulking{factor(name, 1, 1)})
			same(t, e, want, "New", name)
		}
	}
}
