package soil_test

import (
	"math"
	"math/big"
	"testing"

	"draghead/api"
	"draghead/soil"
)

const mostVolume = 1000000000000000

// amount is a function that gives an amount and what remains.
type amount func(s api.Soil, volume, rest int) (int, int, api.Errno)

// checkAmount fails the test unless a function gives this amount and remainder.
func checkAmount(t *testing.T, f amount, s api.Soil, volume, rest, want, remains int, what string) {
	t.Helper()
	n, r, e := f(s, volume, rest)
	same(t, e, api.OK, what, s, volume, rest)
	same(t, n, want, what, s, volume, rest)
	same(t, r, remains, what+": the rest", s, volume, rest)
}

func TestP67Bulked(t *testing.T) {
	for _, x := range []struct {
		s                           api.Soil
		volume, rest, want, remains int
	}{
		{sand(), 7, 0, 8, 2},
		{sand(), 1, 2, 1, 3},
		{sand(), 0, 0, 0, 0},
		{sand(), 0, 4, 0, 4},
		{sand(), 5, 0, 6, 0},
		{sand(), 5, 4, 6, 4},
		{sand(), 4, 1, 5, 0},
		{mud(), 12345, 0, 12345, 0},
		{kind("a", 1, 1, 1000, 1), mostVolume, 0, 1000 * mostVolume, 0},
		{kind("a", 1, 1, 1000, 999), mostVolume, 998, 1001001001001002, 0},
		{kind("a", 1, 1, 1000, 1000), 1, 999, 1, 999},
	} {
		checkAmount(t, soil.Bulked, x.s, x.volume, x.rest, x.want, x.remains, "Bulked")
	}
}

func TestP67Mass(t *testing.T) {
	for _, x := range []struct {
		s                           api.Soil
		volume, rest, want, remains int
	}{
		{sand(), 1000000, 5, 1900, 5},
		{sand(), 1000000, 0, 1900, 0},
		{sand(), 1, 0, 0, 1900},
		{sand(), 1, 999999, 1, 1899},
		{sand(), 0, 0, 0, 0},
		{sand(), 0, 999999, 0, 999999},
		{mud(), 769, 0, 0, 999700},
		{mud(), 769, 300, 1, 0},
		{mud(), 770, 0, 1, 1000},
		{kind("a", 1, 5000, 1, 1), mostVolume, 999999, 5000000000000, 999999},
		{kind("a", 1, 1, 1, 1), mostVolume, 0, 1000000000, 0},
	} {
		checkAmount(t, soil.Mass, x.s, x.volume, x.rest, x.want, x.remains, "Mass")
	}
}

func TestP67Errors(t *testing.T) {
	for _, x := range []struct {
		s            api.Soil
		volume, rest int
		want         api.Errno
	}{
		{api.Soil{}, -1, -1, api.ErrName},
		{kind("9", 1, 1, 1, 1), 0, 0, api.ErrName},
		{kind("a", 0, 1, 1, 1), 0, 0, api.ErrRange},
		{kind("a", 1, 5001, 1, 1), 0, 0, api.ErrRange},
		{kind("a", 1, 1, 1, 2), 0, 0, api.ErrRange},
		{kind("a", 1, 1, 1, 0), 0, 0, api.ErrRange},
		{kind("a", 1, 1, math.MinInt, math.MinInt), 0, 0, api.ErrRange},
		{sand(), -1, 0, api.ErrRange},
		{sand(), mostVolume + 1, 0, api.ErrRange},
		{sand(), math.MinInt, 0, api.ErrRange},
		{sand(), math.MaxInt, 0, api.ErrRange},
		{sand(), 0, -1, api.ErrRange},
		{sand(), 0, math.MinInt, api.ErrRange},
		{sand(), 0, math.MaxInt, api.ErrRange},
		{sand(), 0, 1000000, api.ErrRange},
	} {
		same(t, ofTwo(soil.Bulked(x.s, x.volume, x.rest)), refused(x.want), "Bulked", x)
		same(t, ofTwo(soil.Mass(x.s, x.volume, x.rest)), refused(x.want), "Mass", x)
	}
	same(t, ofTwo(soil.Bulked(sand(), 0, 5)), refused(api.ErrRange), "Bulked")
	same(t, ofTwo(soil.Bulked(mud(), 0, 1)), refused(api.ErrRange), "Bulked")
	same(t, ofTwo(soil.Bulked(kind("a", 1, 1, 1000, 999), 0, 999)), refused(api.ErrRange), "Bulked")
}

func TestP67Computed(t *testing.T) {
	s := &numbers{67}
	for range 3000 {
		k := s.ground(100).Soils[0]
		volume := s.next([]int{10, 1000000, 1 << 30}[s.next(3)]) * (1 + s.next(900000))
		rest := s.next(k.Bulk.Den)
		n, r := divided(volume, k.Bulk.Num, rest, k.Bulk.Den)
		checkAmount(t, soil.Bulked, k, volume, rest, n, r, "Bulked")
		rest = s.next(1000000)
		n, r = divided(volume, k.Density, rest, 1000000)
		checkAmount(t, soil.Mass, k, volume, rest, n, r, "Mass")
	}
}

// divided is volume * by + rest divided by a number, with numbers of any size.
func divided(volume, by, rest, den int) (int, int) {
	n := new(big.Int).Add(times(volume, by), big.NewInt(int64(rest)))
	n, r := n.DivMod(n, big.NewInt(int64(den)), new(big.Int))
	return int(n.Int64()), int(r.Int64())
}
