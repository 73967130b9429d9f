package trip_test

import (
	"math"
	"math/big"
	"testing"

	"draghead/api"
	"draghead/trip"
)

// ladder is a hopper with n lines.
func ladder(n int) api.Hopper {
	out := hopper()
	for k := range n {
		out.Lines = append(out.Lines, api.LoadLine{Mass: 10 * k, Draught: 2 * k})
	}
	return out
}

// hopperWith is the hopper of the examples with something changed.
func hopperWith(change func(h *api.Hopper)) api.Hopper {
	h := hopper(0, 200, 1000, 300)
	change(&h)
	return h
}

// wrongHopper is a hopper with an error.
type wrongHopper struct {
	want   api.Errno
	hopper api.Hopper
}

func wrongHoppers() []wrongHopper {
	return []wrongHopper{
		{api.ErrName, api.Hopper{}},
		{api.ErrName, hopperWith(func(h *api.Hopper) { h.Name, h.Hold = "A-12345678901", 0 })}, // before ErrRange
		{api.ErrName, hopperWith(func(h *api.Hopper) { h.Name, h.Lines = "1", nil })},
		{api.ErrName, hopperWith(func(h *api.Hopper) { h.Name = "-" })},
		{api.ErrName, hopperWith(func(h *api.Hopper) { h.Name = "a b" })},
		{api.ErrName, hopperWith(func(h *api.Hopper) { h.Name = "a\u00e9" })},
		{api.ErrRange, hopperWith(func(h *api.Hopper) { h.Hold = 0 })},
		{api.ErrRange, hopperWith(func(h *api.Hopper) { h.Hold = 1000000000001 })},
		{api.ErrRange, hopperWith(func(h *api.Hopper) { h.Hold, h.Lines = math.MinInt, nil })}, // before ErrShape
		{api.ErrRange, hopperWith(func(h *api.Hopper) { h.Hold, h.Lines = math.MaxInt, ladder(41).Lines })},
		{api.ErrShape, hopper()},
		{api.ErrShape, hopper(0, 200)},
		{api.ErrShape, hopper(-1, -1)}, // before ErrRange
		{api.ErrLarge, ladder(41)},
		{api.ErrLarge, hopperWith(func(h *api.Hopper) { h.Lines = append(ladder(40).Lines, api.LoadLine{Mass: -1}) })}, // before ErrRange
		{api.ErrRange, hopper(-1, 200, 1000, 300)},
		{api.ErrRange, hopper(0, -1, 1000, 300)},
		{api.ErrRange, hopper(0, 200, 1000000001, 300)},
		{api.ErrRange, hopper(0, 200, 1000, 5001)},
		{api.ErrRange, hopper(10, 200, -1, 300)}, // before ErrOrder
		{api.ErrRange, hopper(10, 200, 20, -1)},
		{api.ErrRange, hopper(10, 200, math.MinInt, math.MaxInt)},
		{api.ErrOrder, hopper(0, 200, 0, 300)},
		{api.ErrOrder, hopper(10, 200, 9, 300)},
		{api.ErrOrder, hopper(0, 200, 1000, 199)},
		{api.ErrOrder, hopper(0, 200, 1000, 300, 1000, 300)},
		{api.ErrOrder, hopper(0, 200, 0, 300, -1, 300)},         // the first line that is wrong
		{api.ErrOrder, hopper(0, 200, 1000, 300, 2000, 299, 1)}, // against the line before
		{api.ErrRange, hopper(0, 200, 1000, 5001, 1, 1)},
	}
}

func TestP81CheckHopper(t *testing.T) {
	for _, h := range []api.Hopper{
		hopper(0, 200, 1000, 300), ladder(2), ladder(40), hopper(0, 0, 1, 0), hopper(0, 5000, 1000000000, 5000), hopper(7, 7, 8, 7, 9, 7),
		{Name: "A-1234567890", Hold: 1, Lines: ladder(2).Lines}, {Name: "z", Hold: 1000000000000, Lines: ladder(2).Lines},
	} {
		same(t, trip.CheckHopper(h), api.OK, "CheckHopper", h)
	}
	good := api.Work{Dredge: -1}
	for k, x := range wrongHoppers() {
		allRefused(t, hopperCalls(x.hopper), x.want, k, x)
		good.Hopper = x.hopper
		allRefused(t, workCalls(bar(), good), x.want, k, x)
		same(t, of(trip.Heaviest(bar(), loaded(0, 0), x.hopper)), refused(x.want), "Heaviest", k, x) // before ErrNone
	}
}

func TestP81Examples(t *testing.T) {
	h := hopper(0, 200, 1000, 300)
	n, e := trip.Draught(h, 501)
	same(t, n, 251, "Draught", e)
	n, e = trip.MassAt(h, 250)
	same(t, n, 500, "MassAt", e)
}

func TestP81Draught(t *testing.T) {
	all := hopper(100, 200, 300, 200, 310, 205, 400, 300)
	for _, x := range []struct {
		h          api.Hopper
		mass, want int
	}{
		{all, 100, 200}, {all, 101, 200}, {all, 299, 200}, {all, 300, 200}, {all, 301, 201}, {all, 302, 201}, {all, 303, 202}, {all, 309, 205},
		{all, 310, 205}, {all, 311, 207}, {all, 399, 299}, {all, 400, 300},
		{hopper(0, 0, 1000000000, 5000), 0, 0}, {hopper(0, 0, 1000000000, 5000), 1, 1}, {hopper(0, 0, 1000000000, 5000), 999999999, 5000},
		{hopper(0, 0, 1000000000, 5000), 200000, 1}, {hopper(0, 0, 1000000000, 5000), 200001, 2}, {hopper(0, 0, 1, 5000), 1, 5000},
		{ladder(40), 390, 78}, {ladder(40), 381, 77},
	} {
		n, e := trip.Draught(x.h, x.mass)
		same(t, e, api.OK, "Draught", x)
		same(t, n, x.want, "Draught", x)
	}
	for _, mass := range []int{99, 401, -1, math.MinInt, math.MaxInt} {
		same(t, of(trip.Draught(all, mass)), refused(api.ErrRange), "Draught", mass)
	}
}

func TestP81MassAt(t *testing.T) {
	all := hopper(100, 200, 300, 200, 310, 205, 400, 300)
	for _, x := range []struct {
		h             api.Hopper
		draught, want int
	}{
		{all, 200, 300}, {all, 201, 302}, {all, 204, 308}, {all, 205, 310}, {all, 206, 310}, {all, 207, 311}, {all, 299, 399}, {all, 300, 400}, {all, 301, 400}, {all, 5000, 400},
		{hopper(0, 0, 1000000000, 5000), 0, 0}, {hopper(0, 0, 1000000000, 5000), 1, 200000}, {hopper(0, 0, 1000000000, 5000), 5000, 1000000000},
		{hopper(0, 0, 1000000000, 4999), 1, 200040}, {hopper(0, 0, 1000000000, 0), 0, 1000000000}, {hopper(0, 200, 1, 300), 299, 0}, {ladder(40), 77, 385},
	} {
		n, e := trip.MassAt(x.h, x.draught)
		same(t, e, api.OK, "MassAt", x)
		same(t, n, x.want, "MassAt", x)
	}
	for _, draught := range []int{-1, 5001, math.MinInt, math.MaxInt} {
		same(t, of(trip.MassAt(all, draught)), refused(api.ErrRange), "MassAt", draught)
	}
	for _, draught := range []int{0, 199} {
		same(t, of(trip.MassAt(all, draught)), refused(api.ErrNone), "MassAt", draught)
	}
}

// hopper is a hopper with a few lines of small masses.
func (s *numbers) hopper() api.Hopper {
	out := hopper()
	mass, draught := s.next(5), s.next(10)
	for range 2 + s.next(4) {
		out.Lines = append(out.Lines, api.LoadLine{Mass: mass, Draught: draught})
		mass, draught = mass+1+s.next(12), draught+s.next(8)
	}
	return out
}

// lineOf is the draught as a fraction, rounded up.
func lineOf(h api.Hopper, mass int) int {
	for i, b := range h.Lines[1:] {
		a := h.Lines[i]
		if a.Mass <= mass && mass <= b.Mass {
			r := big.NewRat(int64(b.Draught-a.Draught), int64(b.Mass-a.Mass))
			r.Mul(r, big.NewRat(int64(mass-a.Mass), 1))
			r.Neg(r.Add(r, big.NewRat(int64(a.Draught), 1)))
			return -int(new(big.Int).Div(r.Num(), r.Denom()).Int64())
		}
	}
	panic("there are no such lines")
}

func TestP81Lines(t *testing.T) {
	s := &numbers{81}
	for range 500 {
		h := s.hopper()
		first, last := h.Lines[0], h.Lines[len(h.Lines)-1]
		for mass := first.Mass; mass <= last.Mass; mass++ {
			n, e := trip.Draught(h, mass)
			same(t, e, api.OK, "Draught", h, mass)
			same(t, n, lineOf(h, mass), "Draught", h, mass)
		}
		for draught := first.Draught; draught <= last.Draught+2; draught++ {
			want := first.Mass
			for mass := first.Mass; mass <= last.Mass; mass++ {
				if lineOf(h, mass) <= draught {
					want = mass
				}
			}
			n, e := trip.MassAt(h, draught)
			same(t, e, api.OK, "MassAt", h, draught)
			same(t, n, want, "MassAt", h, draught)
		}
	}
}
