package disposal_test

import (
	"testing"

	"draghead/api"
	"draghead/disposal"
)

func TestP94Place(t *testing.T) {
	full := having(example(), deposits(199, "Deep")...)
	for _, x := range []struct {
		s     api.Yard
		b     api.Batch
		pit   string
		put   int
		carry []int
	}{
		{example(), batch(1, 400001, "sand", 0), "Clean", 500001, []int{1, 0}},
		{begun(), batch(2, 400001, "sand", 0), "Deep", 500001, []int{2, 0}},
		{begun(), batch(3, 5, "silt", 1), "Deep", 7, []int{1, 1}},
		{begun(), batch(4, 399999, "sand", 0), "Clean", 499999, []int{0, 0}}, // it is full then
		{example(), batch(5, 800003, "sand", 0), "Deep", 1000003, []int{3, 0}},
		{example(), overflowing(batch(greatest, 7, "silt", 1), 7), "Deep", 0, []int{0, 0}},
		{having(example(), deposit(1, "Clean", 1000000)), batch(2, 0, "sand", 0), "Clean", 0, []int{0, 0}}, // nothing goes into a full pit
		{full, batch(1, 1, "sand", 0), "Clean", 1, []int{1, 0}},
	} {
		got, e := disposal.Place(x.s, x.b, x.pit)
		same(t, e, api.OK, "Place", x)
		want := having(x.s, deposit(x.b.Number, x.pit, x.put))
		want.Carry = x.carry
		sameYard(t, got, want, "Place", x)
		same(t, disposal.Check(got), api.OK, "Check", x)
	}
}

func TestP94PlaceErrors(t *testing.T) {
	full := having(example(), deposits(200, "Deep")...)
	rested := example()
	rested.Carry[0] = 3
	for k, x := range []struct {
		want api.Errno
		s    api.Yard
		b    api.Batch
		pit  string
	}{
		{api.ErrExists, begun(), batch(1, 1, "sand", 0), "Deep"},
		{api.ErrExists, begun(), batch(1, mostBed, "silt", 9), "?"}, // before ErrMissing
		{api.ErrExists, having(begun(), deposits(199, "Deep")...), batch(1, 1, "sand", 0), "Deep"},
		{api.ErrMissing, begun(), batch(2, 1, "sand", 0), "Other"},
		{api.ErrMissing, full, batch(2, mostBed, "silt", 9), ""}, // before ErrClass
		{api.ErrClass, begun(), batch(3, 1, "silt", 1), "Clean"},
		{api.ErrClass, full, batch(3, mostBed, "silt", 1), "Clean"}, // before ErrCapacity
		{api.ErrClass, begun(), batch(3, 0, "silt", 9), "Deep"},
		{api.ErrClass, plain(box("a", 5, 0)), batch(3, 0, "s", 0), "a"},
		{api.ErrCapacity, begun(), batch(2, 400001, "sand", 0), "Clean"},
		{api.ErrCapacity, begun(), batch(2, 400000, "sand", 0), "Clean"}, // by one
		{api.ErrCapacity, rested, batch(2, 800001, "sand", 0), "Clean"},  // by the remainder
		{api.ErrCapacity, full, batch(2, mostBed, "sand", 0), "Clean"},   // before ErrLarge
		{api.ErrLarge, full, batch(2, 1, "sand", 0), "Clean"},
		{api.ErrLarge, full, batch(2, 0, "sand", 0), "Deep"},
	} {
		same(t, of(disposal.Place(x.s, x.b, x.pit)), refused(x.want), "Place", k, x.b, x.pit)
	}
	rested.Carry[0] = 0
	_, e := disposal.Place(rested, batch(2, 800000, "sand", 0), "Clean")
	same(t, e, api.OK, "Place without the remainder")
}

func refusedBy(pit string, e api.Errno) api.Refused { return api.Refused{Pit: pit, Reason: e} }

func TestP94Reasons(t *testing.T) {
	both := plain(box("c", 5, 0, 1), box("a", 5, 0, 0), box("d", 9, 0, 0, 1), box("b", 6, 0, 0))
	for _, x := range []struct {
		s    api.Yard
		b    api.Batch
		want []api.Refused
	}{
		{begun(), batch(2, 400001, "sand", 0), []api.Refused{refusedBy("Clean", api.ErrCapacity)}},
		{begun(), batch(1, 400001, "sand", 0), []api.Refused{refusedBy("Clean", api.ErrCapacity)}}, // though it has a deposit
		{begun(), batch(2, 1, "sand", 0), nil},
		{begun(), batch(1, 1, "sand", 0), nil},
		{begun(), batch(2, 1, "sand", 1), []api.Refused{refusedBy("Clean", api.ErrClass)}},
		{begun(), batch(2, mostBed, "sand", 1), []api.Refused{refusedBy("Clean", api.ErrClass), refusedBy("Deep", api.ErrCapacity)}}, // the class first
		{begun(), batch(2, mostBed, "sand", 2), []api.Refused{refusedBy("Clean", api.ErrClass), refusedBy("Deep", api.ErrClass)}},
		{both, batch(1, 6, "s", 0), []api.Refused{refusedBy("c", api.ErrClass), refusedBy("a", api.ErrCapacity)}},
		{both, batch(1, 7, "s", 0), []api.Refused{refusedBy("c", api.ErrClass), refusedBy("a", api.ErrCapacity), refusedBy("b", api.ErrCapacity)}},
		{both, batch(1, 10, "s", 1), []api.Refused{refusedBy("c", api.ErrCapacity), refusedBy("a", api.ErrClass), refusedBy("d", api.ErrCapacity), refusedBy("b", api.ErrClass)}},
		{plain(), batch(1, 10, "s", 1), nil},
		{having(example(), deposits(200, "Deep")...), batch(1, 1, "sand", 0), nil}, // how many deposits there are does not matter
	} {
		got, e := disposal.Reasons(x.s, x.b)
		same(t, e, api.OK, "Reasons", x)
		sameList(t, got, x.want, "Reasons", x)
	}
}

func TestP94Choose(t *testing.T) {
	several := plain(box("e", 9, 40, 1), box("c", 5, 20, 0), box("d", 9, 30, 0), box("b", 9, 30, 0, 1), box("a", 3, 10, 0))
	for _, x := range []struct {
		s    api.Yard
		b    api.Batch
		want string
	}{
		{begun(), batch(2, 400001, "sand", 0), "Deep"},
		{begun(), batch(1, 400001, "sand", 0), "Deep"},
		{begun(), batch(2, 399999, "sand", 0), "Clean"},
		{begun(), batch(3, 1, "silt", 1), "Deep"},
		{several, batch(1, 3, "s", 0), "a"},
		{several, batch(1, 4, "s", 0), "c"},
		{several, batch(1, 6, "s", 0), "d"}, // the first of several
		{several, batch(1, 1, "s", 1), "b"},
		{having(example(), deposits(200, "Deep")...), batch(1, 1, "sand", 0), "Clean"},
	} {
		got, e := disposal.Choose(x.s, x.b)
		same(t, e, api.OK, "Choose", x)
		same(t, got, x.want, "Choose", x)
	}
	for _, x := range []struct {
		s api.Yard
		b api.Batch
	}{
		{several, batch(1, 10, "s", 0)}, {several, batch(1, 0, "s", 2)}, {plain(), batch(1, 0, "s", 0)}, {plain(pits(8)...), batch(1, 0, "s", 0)}, {begun(), batch(2, mostBed, "sand", 0)},
	} {
		same(t, of(disposal.Choose(x.s, x.b)), refused(api.ErrNone), "Choose", x)
	}
}
