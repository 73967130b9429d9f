package disposal_test

import (
	"maps"
	"reflect"
	"slices"
	"testing"

	"draghead/api"
	"draghead/disposal"
)

const (
	highest  = api.MaxLevel
	greatest = api.MaxNumber        // the greatest number of a batch
	mostBed  = 1000000000000        // the greatest volume in the bed
	widest   = 1000000000           // the greatest area
	mostPut  = 100000000000000      // the greatest volume of a deposit
	mostRoom = widest * 2 * highest // the greatest capacity
)

// example is the yard of the chapter's examples.
func example() api.Yard {
	return api.Yard{
		Pits:    []api.Pit{pit("Clean", 10000, -500, -400, 300, 0), pit("Deep", 10000, -900, -700, 500, 0, 1)},
		Bulking: []api.Bulking{factor("sand", 5, 4), factor("silt", 3, 2)},
		Carry:   []int{0, 0},
	}
}

// begun is this yard with the first batch of the examples in the first pit.
func begun() api.Yard {
	s := having(example(), deposit(1, "Clean", 500001))
	s.Carry[0] = 1
	return s
}

// batches are the three batches of the examples, and the fourth one.
func batches() []api.Batch {
	return []api.Batch{batch(1, 400001, "sand", 0), batch(2, 400001, "sand", 0), batch(3, 800000, "silt", 1)}
}

func four() []api.Batch {
	return append(batches(), overflowing(batch(4, 900000, "silt", 1), 100000))
}

// shares are the assignment of the examples.
func shares() []api.Allot {
	return []api.Allot{allot(1, "Clean", 500001), allot(2, "Clean", 499999), allot(2, "Deep", 2), allot(3, "Deep", 1200000)}
}

// freight is that assignment with the tariff of the examples.
func freight() api.Freight {
	return api.Freight{Allots: shares(), Cost: 900001000, Tariff: tariff([]int{500, 500, 500}, 200, 0)}
}

func pit(name string, area, base, top, price int, classes ...int) api.Pit {
	return api.Pit{Name: name, Area: area, Base: base, Top: top, Classes: classes, Price: price}
}

// box is a pit with a small capacity.
func box(name string, capacity, price int, classes ...int) api.Pit {
	return pit(name, capacity, 0, 1, price, classes...)
}

func factor(soil string, num, den int) api.Bulking {
	return api.Bulking{Soil: soil, Factor: api.Frac{Num: num, Den: den}}
}

func deposit(batch int, pit string, volume int) api.Deposit {
	return api.Deposit{Batch: batch, Pit: pit, Volume: volume}
}

func batch(number, bed int, soil string, class int) api.Batch {
	return api.Batch{Number: number, Bed: bed, Soil: soil, Class: class}
}

// overflowing is the same batch with an overflow.
func overflowing(b api.Batch, n int) api.Batch {
	b.Overflow = n
	return b
}

func allot(batch int, pit string, volume int) api.Allot {
	return api.Allot{Batch: batch, Pit: pit, Volume: volume}
}

func tariff(batches []int, pits ...int) api.Tariff {
	return api.Tariff{Batches: batches, Pits: pits}
}

// having is the same yard with further deposits.
func having(s api.Yard, l ...api.Deposit) api.Yard {
	s.Deposits = append(slices.Clone(s.Deposits), l...)
	return s
}

// yardWith is the yard of the examples with something changed.
func yardWith(change func(s *api.Yard)) api.Yard {
	s := example()
	change(&s)
	return s
}

// plain is an empty yard in which each soil has the factor 1.
func plain(pits ...api.Pit) api.Yard {
	return api.Yard{Pits: pits, Bulking: []api.Bulking{factor("s", 1, 1)}, Carry: []int{0}}
}

// loads are batches of that soil, numbered from 1 on, from pairs of a volume and a class.
func loads(pairs ...int) []api.Batch {
	var out []api.Batch
	for i := 0; i+1 < len(pairs); i += 2 {
		out = append(out, batch(1+i/2, pairs[i], "s", pairs[i+1]))
	}
	return out
}

// deposits are n empty ones in a pit.
func deposits(n int, pit string) []api.Deposit {
	var out []api.Deposit
	for k := range n {
		out = append(out, deposit(greatest-k, pit, 0))
	}
	return out
}

func letter(k int) string { return string(rune('a' + k)) }

// numbers is a sequence that looks irregular and is always the same.
type numbers struct{ state uint64 }

// next is a number from 0 to below n.
func (s *numbers) next(n int) int {
	s.state = s.state*6364136223846793005 + 1442695040888963407
	return int(s.state>>33) % n
}

// is is true once in n times.
func (s *numbers) is(n int) bool { return s.next(n) == 0 }

// same fails the test if got is not want.
func same[T comparable](t *testing.T, got, want T, what string, about ...any) {
	t.Helper()
	if got != want {
		t.Errorf("%s %v: %v instead of %v", what, about, got, want)
	}
}

// sameList fails the test if the elements of got are not those of want.
func sameList[T comparable](t *testing.T, got, want []T, what string, about ...any) {
	t.Helper()
	if !slices.Equal(got, want) {
		t.Errorf("%s %v: %v instead of %v", what, about, got, want)
	}
}

// sameYard fails the test if got is not want.
func sameYard(t *testing.T, got, want api.Yard, what string, about ...any) {
	t.Helper()
	if !slices.EqualFunc(got.Pits, want.Pits, equalPits) {
		t.Errorf("%s %v: the pits %v instead of %v", what, about, got.Pits, want.Pits)
	}
	sameList(t, got.Bulking, want.Bulking, what+": the factors", about...)
	sameList(t, got.Deposits, want.Deposits, what+": the deposits", about...)
	sameList(t, got.Carry, want.Carry, what+": the remainders", about...)
}

func equalPits(a, b api.Pit) bool {
	return a.Name == b.Name && a.Area == b.Area && a.Base == b.Base && a.Top == b.Top && a.Price == b.Price && slices.Equal(a.Classes, b.Classes)
}

// answer is what a call returned: whether all results beside the error are zero values, and the error.
type answer struct {
	empty bool
	e     api.Errno
}

// refused is the answer of a call that returns only an error.
func refused(e api.Errno) answer { return answer{true, e} }

// of is the answer of a call with one result and an error.
func of[T any](result T, e api.Errno) answer {
	return answer{isEmpty(reflect.ValueOf(result)), e}
}

// ofTwo is the answer of a call with two results and an error.
func ofTwo[T, U any](result T, other U, e api.Errno) answer {
	return answer{isEmpty(reflect.ValueOf(result)) && isEmpty(reflect.ValueOf(other)), e}
}

// isEmpty reports whether a value is the zero value; lists may be empty.
func isEmpty(v reflect.Value) bool {
	switch v.Kind() {
	case reflect.Slice:
		return v.Len() == 0
	case reflect.Struct:
		for i := range v.NumField() {
			if !isEmpty(v.Field(i)) {
				return false
			}
		}
		return true
	}
	return v.IsZero()
}

// yardCalls calls every function with a yard; whatever else it is given is wrong.
func yardCalls(s api.Yard) map[string]answer {
	out := map[string]answer{
		"Check": refused(disposal.Check(s)),
		"Print": of(disposal.Print(s)),
	}
	maps.Copy(out, pitCalls(s, "?"))
	maps.Copy(out, batchCalls(s, api.Batch{Overflow: 1}, "?"))
	maps.Copy(out, listCalls(s, make([]api.Batch, api.MaxDeposits+1)))
	return out
}

// pitCalls calls every function with a yard and the name of a pit.
func pitCalls(s api.Yard, pit string) map[string]answer {
	return map[string]answer{
		"Taken":  of(disposal.Taken(s, pit)),
		"Room":   of(disposal.Room(s, pit)),
		"Level":  of(disposal.Level(s, pit)),
		"Layers": of(disposal.Layers(s, pit)),
	}
}

// batchCalls calls every function with a yard and one batch.
func batchCalls(s api.Yard, b api.Batch, pit string) map[string]answer {
	return map[string]answer{
		"CheckBatch": refused(disposal.CheckBatch(s, b)),
		"Bulked":     ofTwo(disposal.Bulked(s, b)),
		"Place":      of(disposal.Place(s, b, pit)),
		"Reasons":    of(disposal.Reasons(s, b)),
		"Choose":     of(disposal.Choose(s, b)),
	}
}

// listCalls calls every function with a yard and batches; whatever else it is given is wrong.
func listCalls(s api.Yard, l []api.Batch) map[string]answer {
	out := jobCalls(s, l)
	out["Balance"] = of(disposal.Balance(s, l))
	return out
}

// jobCalls calls every function with batches that are assigned together; the proofs are wrong.
func jobCalls(s api.Yard, l []api.Batch) map[string]answer {
	return map[string]answer{
		"Assign":        ofTwo(disposal.Assign(s, l)),
		"CheckShares":   refused(disposal.CheckShares(s, l, []api.Allot{{}})),
		"CheckCut":      refused(disposal.CheckCut(s, l, []int{-1})),
		"Cheapest":      of(disposal.Cheapest(s, l)),
		"CheckCheapest": refused(disposal.CheckCheapest(s, l, api.Freight{Cost: -1})),
	}
}

// allRefused fails the test unless all calls return this error and nothing else.
func allRefused(t *testing.T, calls map[string]answer, want api.Errno, about ...any) {
	t.Helper()
	for name, got := range calls {
		same(t, got, refused(want), name, about...)
	}
}
