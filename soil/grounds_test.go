package soil_test

import (
	"math"
	"testing"

	"draghead/api"
	"draghead/soil"
)

func TestP61Soils(t *testing.T) {
	for _, l := range [][]api.Soil{
		{sand()},
		{sand(), mud()},
		soils(1, 2, 3, 4, 5, 6, 7, 8),
		{kind("a", 1, 1, 1, 1)},
		{kind("Z", 1000, 5000, 1000, 1)},
		{kind("z9-", 1, 1, 1000, 1000)},
		{kind("A-1234567890", 1, 1, 2, 1)},
		{kind("sand", 1, 1, 1, 1), kind("Sand", 1, 1, 1, 1), kind("san", 1, 1, 1, 1)},
	} {
		same(t, soil.CheckSoils(l), api.OK, "CheckSoils", l)
	}
	long := soils(1, 2, 3, 4, 5, 6, 7, 8, 9)
	for _, x := range []struct {
		l    []api.Soil
		want api.Errno
	}{
		{nil, api.ErrShape},
		{[]api.Soil{}, api.ErrShape},
		{long, api.ErrLarge},
		{append(make([]api.Soil, 8), mud()), api.ErrLarge}, // before ErrName
		{[]api.Soil{{}}, api.ErrName},
		{[]api.Soil{kind("", 0, 0, 0, 0)}, api.ErrName},
		{[]api.Soil{kind("A-12345678901", 1, 1, 1, 1)}, api.ErrName},
		{[]api.Soil{kind("1a", 1, 1, 1, 1)}, api.ErrName},
		{[]api.Soil{kind("-a", 1, 1, 1, 1)}, api.ErrName},
		{[]api.Soil{kind("a b", 1, 1, 1, 1)}, api.ErrName},
		{[]api.Soil{kind("a_b", 1, 1, 1, 1)}, api.ErrName},
		{[]api.Soil{kind("ä", 1, 1, 1, 1)}, api.ErrName},
		{[]api.Soil{mud(), mud()}, api.ErrExists},
		{[]api.Soil{mud(), sand(), kind("mud", 0, 0, 0, 0)}, api.ErrExists}, // before ErrRange
		{[]api.Soil{kind("mud", 0, 1, 1, 1), kind("mud", 1, 1, 1, 1)}, api.ErrRange},
		{[]api.Soil{kind("mud", 0, 1, 1, 1), {}}, api.ErrRange},
		{[]api.Soil{{}, kind("mud", 0, 1, 1, 1)}, api.ErrName},
		{[]api.Soil{kind("a", 0, 1, 1, 1)}, api.ErrRange},
		{[]api.Soil{kind("a", 1001, 1, 1, 1)}, api.ErrRange},
		{[]api.Soil{kind("a", math.MinInt, 1, 1, 1)}, api.ErrRange},
		{[]api.Soil{kind("a", 1, 0, 1, 1)}, api.ErrRange},
		{[]api.Soil{kind("a", 1, 5001, 1, 1)}, api.ErrRange},
		{[]api.Soil{kind("a", 1, 1, 0, 0)}, api.ErrRange},
		{[]api.Soil{kind("a", 1, 1, 0, 1)}, api.ErrRange},
		{[]api.Soil{kind("a", 1, 1, 1, 0)}, api.ErrRange},
		{[]api.Soil{kind("a", 1, 1, -1, -1)}, api.ErrRange},
		{[]api.Soil{kind("a", 1, 1, 1001, 1)}, api.ErrRange},
		{[]api.Soil{kind("a", 1, 1, 1001, 1001)}, api.ErrRange},
		{[]api.Soil{kind("a", 1, 1, 4, 5)}, api.ErrRange},
		{[]api.Soil{kind("a", 1, 1, 999, 1000)}, api.ErrRange},
		{[]api.Soil{mud(), sand(), kind("a", 1, 1, 4, 5)}, api.ErrRange},
	} {
		same(t, soil.CheckSoils(x.l), x.want, "CheckSoils", x)
		// They are the first errors of a ground, too.
		allRefused(t, groundCalls(api.Ground{Soils: x.l}), x.want, x)
	}
}

// Each byte as the first one of a name, and as a later one.
func TestP61Names(t *testing.T) {
	for c := range 256 {
		isLetter := c >= 'A' && c <= 'Z' || c >= 'a' && c <= 'z'
		for name, is := range map[string]bool{
			string([]byte{byte(c)}):           isLetter,
			string([]byte{'x', byte(c)}):      isLetter || c >= '0' && c <= '9' || c == '-',
			string([]byte{'x', byte(c), 'x'}): isLetter || c >= '0' && c <= '9' || c == '-',
		} {
			want := api.OK
			if !is {
				want = api.ErrName
			}
			same(t, soil.CheckSoils([]api.Soil{kind(name, 1, 1, 1, 1)}), want, "CheckSoils", name)
			b := boring(name, 0, 0, layer(0, "mud"))
			same(t, soil.CheckGround(with1(b)), want, "CheckGround", name)
		}
	}
}

// many is a ground with so many borings, each with so many layers.
func many(borings, layers int) api.Ground {
	g := api.Ground{Soils: soils(1, 2)}
	for k := range borings {
		b := boring(letter(k), k, k)
		for i := range layers {
			b.Layers = append(b.Layers, layer(highest-i, letter(i%2)))
		}
		g.Borings = append(g.Borings, b)
	}
	return g
}

func TestP61Grounds(t *testing.T) {
	for _, g := range []api.Ground{
		example(), many(20, 12), many(1, 1), uniform(1), uniform(1000),
		with1(boring("B", farthest, -farthest, layer(highest, "mud"), layer(-highest, "mud"))),
		with1(boring("mud", -farthest, farthest, layer(0, "mud"), layer(-1, "sand"), layer(-2, "mud"))),
		// Borings may stand at one place.
		{Soils: soils(5), Borings: []api.Boring{boring("A", 5, 5, layer(0, "a")), boring("B", 5, 5, layer(0, "a"))}},
	} {
		same(t, soil.CheckGround(g), api.OK, "CheckGround", g)
	}
}

func TestP61GroundErrors(t *testing.T) {
	const far = farthest
	good, bad := layer(0, "mud"), layer(highest+1, "x")
	for _, x := range []struct {
		l    []api.Boring
		want api.Errno
	}{
		{nil, api.ErrShape},
		{[]api.Boring{}, api.ErrShape},
		{make([]api.Boring, 21), api.ErrLarge},
		{many(21, 1).Borings, api.ErrLarge},
		{make([]api.Boring, 20), api.ErrName},
		{[]api.Boring{boring("", far+1, 0)}, api.ErrName},
		{[]api.Boring{boring("9", 0, 0, good)}, api.ErrName},
		{[]api.Boring{boring("A-12345678901", 0, 0, good)}, api.ErrName},
		{[]api.Boring{boring("B", 0, 0, good), boring("B", far+1, 0)}, api.ErrExists},
		{[]api.Boring{boring("B", 0, 0, good), boring("C", 0, 0, good), boring("B", 5, 5, good)}, api.ErrExists},
		{[]api.Boring{boring("B", 0, 0, bad), boring("B", 0, 0, good)}, api.ErrRange},
		{[]api.Boring{boring("B", far+1, 0)}, api.ErrRange}, // before ErrShape
		{[]api.Boring{boring("B", -far-1, 0, good)}, api.ErrRange},
		{[]api.Boring{boring("B", 0, far+1, good)}, api.ErrRange},
		{[]api.Boring{boring("B", 0, -far-1, good)}, api.ErrRange},
		{[]api.Boring{boring("B", math.MaxInt, math.MinInt, good)}, api.ErrRange},
		{[]api.Boring{boring("B", 0, 0)}, api.ErrShape},
		{[]api.Boring{boring("B", 0, 0, []api.Layer{}...)}, api.ErrShape},
		{[]api.Boring{boring("B", 0, 0, good), boring("C", 0, 0), boring("", 0, 0)}, api.ErrShape},
		{[]api.Boring{boring("B", 0, 0, make([]api.Layer, 13)...)}, api.ErrLarge},
		{many(20, 13).Borings, api.ErrLarge},
		{[]api.Boring{boring("B", 0, 0, make([]api.Layer, 12)...)}, api.ErrMissing},
		{[]api.Boring{boring("B", 0, 0, bad)}, api.ErrRange}, // before ErrMissing
		{[]api.Boring{boring("B", 0, 0, layer(-highest-1, "mud"))}, api.ErrRange},
		{[]api.Boring{boring("B", 0, 0, layer(math.MaxInt, "mud"))}, api.ErrRange},
		{[]api.Boring{boring("B", 0, 0, good, bad)}, api.ErrRange}, // before ErrOrder
		{[]api.Boring{boring("B", 0, 0, good, good)}, api.ErrOrder},
		{[]api.Boring{boring("B", 0, 0, good, layer(0, "x"))}, api.ErrOrder}, // before ErrMissing
		{[]api.Boring{boring("B", 0, 0, good, layer(1, "mud"))}, api.ErrOrder},
		{[]api.Boring{boring("B", 0, 0, good, layer(-5, "mud"), layer(-4, "mud"), bad)}, api.ErrOrder},
		{[]api.Boring{boring("B", 0, 0, layer(0, "x"), good)}, api.ErrMissing},
		{[]api.Boring{boring("B", 0, 0, layer(0, ""))}, api.ErrMissing},
		{[]api.Boring{boring("B", 0, 0, layer(0, "Mud"))}, api.ErrMissing},
		{[]api.Boring{boring("B", 0, 0, good, layer(-1, "mud-"))}, api.ErrMissing},
		{[]api.Boring{boring("B", 0, 0, good, layer(-1, "B"))}, api.ErrMissing},
		{[]api.Boring{boring("B", 0, 0, good), boring("C", 0, 0, layer(0, "x")), {}}, api.ErrMissing},
	} {
		g := api.Ground{Soils: example().Soils, Borings: x.l}
		same(t, soil.CheckGround(g), x.want, "CheckGround", x)
		allRefused(t, groundCalls(g), x.want, x)
	}
	// The soils come first.
	allRefused(t, groundCalls(api.Ground{Soils: []api.Soil{mud(), mud()}, Borings: make([]api.Boring, 21)}), api.ErrExists)
}

// The errors of grids follow those of the ground, and come before all others.
func TestP61Grids(t *testing.T) {
	for _, x := range []struct {
		m    api.Grid
		want api.Errno
	}{
		{frame(farthest+1, 0, 100, 1, 1), api.ErrRange},
		{flat(frame(0, 0, 99, 1, 1), 0), api.ErrRange},
		{frame(0, 0, 100, 1024, 2), api.ErrLarge},
		{frame(0, 0, 100, 2, 1), api.ErrShape},
		{with(frame(0, 0, 100, 2, 1), 0, 0, 0), api.ErrShape},
		{with(frame(0, 0, 100, 2, 1), 0, highest+1), api.ErrRange},
		{with(frame(0, 0, 100, 2, 1), 0, -u), api.ErrRange}, // it is no unknown cell upside down
		{with(frame(0, 0, 100, 2, 1), math.MinInt, 0), api.ErrRange},
	} {
		allRefused(t, gridCalls(example(), x.m), x.want, x)
	}
	m := flat(frame(100, 200, 100, 3, 2), -500)
	for _, other := range []api.Grid{
		flat(frame(101, 200, 100, 3, 2), -500), flat(frame(100, 201, 100, 3, 2), -500), flat(frame(100, 200, 101, 3, 2), -500),
		flat(frame(100, 200, 100, 2, 2), -500), flat(frame(100, 200, 100, 2, 3), u), flat(frame(100, 200, 100, 3, 3), -500),
	} {
		allRefused(t, twoCalls(example(), m, other), api.ErrShape, other)
		allRefused(t, twoCalls(example(), other, m), api.ErrShape, other)
	}
}
