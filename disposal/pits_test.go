package disposal_test

import (
	"testing"

	"draghead/api"
	"draghead/disposal"
)

func TestP93Pits(t *testing.T) {
	wide := having(plain(pit("a", widest, -highest, highest, 0), box("b", 3, 0)), deposit(1, "b", 3), deposit(2, "a", mostRoom), deposit(3, "b", 0))
	mixed := having(plain(pit("a", 10, -5, 5, 0), pit("b", 10, 5, 15, 0)), deposit(9, "b", 10), deposit(2, "a", 1), deposit(7, "b", 11), deposit(1, "a", 0), deposit(4, "b", 70))
	for _, x := range []struct {
		s                  api.Yard
		pit                string
		taken, room, level int
		layers             []api.Deposit
	}{
		{example(), "Clean", 0, 1000000, -500, nil},
		{example(), "Deep", 0, 2000000, -900, nil},
		{begun(), "Clean", 500001, 499999, -449, []api.Deposit{deposit(1, "Clean", 500001)}},
		{begun(), "Deep", 0, 2000000, -900, nil},
		{having(example(), deposit(1, "Clean", 500000)), "Clean", 500000, 500000, -450, []api.Deposit{deposit(1, "Clean", 500000)}},
		{having(example(), deposit(1, "Clean", 1)), "Clean", 1, 999999, -499, []api.Deposit{deposit(1, "Clean", 1)}},
		{having(example(), deposit(1, "Clean", 990001)), "Clean", 990001, 9999, -400, []api.Deposit{deposit(1, "Clean", 990001)}},
		{having(example(), deposit(1, "Clean", 1000000)), "Clean", 1000000, 0, -400, []api.Deposit{deposit(1, "Clean", 1000000)}},
		{wide, "a", mostRoom, 0, highest, []api.Deposit{deposit(2, "a", mostRoom)}},
		{wide, "b", 3, 0, 1, []api.Deposit{deposit(1, "b", 3), deposit(3, "b", 0)}},
		{mixed, "a", 1, 99, -4, []api.Deposit{deposit(2, "a", 1), deposit(1, "a", 0)}},
		{mixed, "b", 91, 9, 15, []api.Deposit{deposit(9, "b", 10), deposit(7, "b", 11), deposit(4, "b", 70)}},
	} {
		n, e := disposal.Taken(x.s, x.pit)
		same(t, e, api.OK, "Taken", x)
		same(t, n, x.taken, "Taken", x)
		n, e = disposal.Room(x.s, x.pit)
		same(t, e, api.OK, "Room", x)
		same(t, n, x.room, "Room", x)
		n, e = disposal.Level(x.s, x.pit)
		same(t, e, api.OK, "Level", x)
		same(t, n, x.level, "Level", x)
		l, e := disposal.Layers(x.s, x.pit)
		same(t, e, api.OK, "Layers", x)
		sameList(t, l, x.layers, "Layers", x)
	}
}

func TestP93Missing(t *testing.T) {
	for _, name := range []string{"", "clean", "Clean ", "Other", "sand"} {
		allRefused(t, pitCalls(begun(), name), api.ErrMissing, name)
	}
	allRefused(t, pitCalls(api.Yard{}, ""), api.ErrMissing)
}

// The level is the lowest one up to which the pit holds what it has taken.
func TestP93Levels(t *testing.T) {
	s := &numbers{93}
	for range 500 {
		y := s.yard()
		for _, p := range y.Pits {
			taken := 0
			for _, d := range y.Deposits {
				if d.Pit == p.Name {
					taken += d.Volume
				}
			}
			n, _ := disposal.Level(y, p.Name)
			same(t, p.Base <= n && n <= p.Top, true, "within the pit", y, p)
			same(t, (n-p.Base)*p.Area >= taken, true, "high enough", y, p)
			same(t, (n-1-p.Base)*p.Area < taken, true, "no higher", y, p)
			got, _ := disposal.Taken(y, p.Name)
			same(t, got, taken, "Taken", y, p)
			rest, _ := disposal.Room(y, p.Name)
			same(t, rest, p.Area*(p.Top-p.Base)-taken, "Room", y, p)
		}
	}
}
