package tide_test

import (
	"math"
	"testing"

	"draghead/api"
	"draghead/tide"
)

func TestP21Names(t *testing.T) {
	for _, name := range []string{"a", "Z", "pier", "a1", "a-", "A-1-z", "az09AZ-azAZ9", "gauge"} {
		same(t, tide.CheckGauge(api.Gauge{Name: name}), api.OK, "CheckGauge", name)
	}
	for _, name := range []string{
		"", "1", "-", "1a", "-a", "abcdefghijklm", "a b", "a ", " a", "a\n", "a\t", "a_b", "a.b", "a\x00", "é", "aé", "aß", "a@", "a[", "a`", "a{", "@a", "[a", "`a", "{a", "a/", "a:", "a,", "\xff",
	} {
		same(t, tide.CheckGauge(api.Gauge{Name: name}), api.ErrName, "CheckGauge", name)
	}
}

func TestP21CheckGauge(t *testing.T) {
	const x, v, m = api.MaxPlace, api.MaxLevel, api.MaxMinute
	for _, c := range []struct {
		g    api.Gauge
		want api.Errno
	}{
		{exact(), api.OK},
		{api.Gauge{Name: "g", Marks: []api.Mark{}}, api.OK},
		{pier(), api.OK},
		{api.Gauge{Name: "g", X: x, Error: api.MaxError}, api.OK},
		{api.Gauge{Name: "g", X: -x}, api.OK},
		{api.Gauge{Name: "g", X: x + 1}, api.ErrRange},
		{api.Gauge{Name: "g", X: -x - 1}, api.ErrRange},
		{api.Gauge{Name: "g", X: math.MaxInt}, api.ErrRange},
		{api.Gauge{Name: "g", X: math.MinInt}, api.ErrRange},
		{api.Gauge{Name: "g", Error: -1}, api.ErrRange},
		{api.Gauge{Name: "g", Error: api.MaxError + 1}, api.ErrRange},
		{api.Gauge{Name: "g", Error: math.MinInt}, api.ErrRange},
		{full(400), api.OK},
		{full(401), api.ErrLarge},
		{exact(0, v, 1, -v, m, 0), api.OK},
		{exact(-1, 0), api.ErrRange},
		{exact(m+1, 0), api.ErrRange},
		{exact(0, v+1), api.ErrRange},
		{exact(0, -v-1), api.ErrRange},
		{exact(0, math.MinInt), api.ErrRange},
		{exact(math.MaxInt, 0), api.ErrRange},
		{exact(0, 0, 0, 0), api.ErrOrder},
		{exact(0, 0, 0, 1), api.ErrOrder},
		{exact(1, 0, 0, 0), api.ErrOrder},
		{exact(0, 0, 2, 0, 1, 0), api.ErrOrder},
	} {
		same(t, tide.CheckGauge(c.g), c.want, "CheckGauge", c.g)
	}
}

// The chapter lists ErrName, ErrRange, ErrLarge, and for each mark ErrRange, ErrOrder.
func TestP21FirstError(t *testing.T) {
	long := steps(401, 1)
	long[0].Minute = -1
	for _, c := range []struct {
		g    api.Gauge
		want api.Errno
	}{
		{api.Gauge{X: math.MaxInt, Marks: long}, api.ErrName},
		{api.Gauge{Name: "g", X: math.MaxInt, Marks: long}, api.ErrRange},
		{api.Gauge{Name: "g", Marks: long}, api.ErrLarge},
		{exact(5, 0, 4, 0, -1, 0), api.ErrOrder},           // the second mark comes before the third one
		{exact(5, 0, 6, 30000, 6, 0), api.ErrRange},        // and here too
		{exact(5, 0, 4, api.MaxLevel+1), api.ErrRange},     // the same mark: ErrRange is listed first
		{exact(5, 0, -1, 0), api.ErrRange},                 // as here
		{exact(5, 0, 5, 0, 6, api.MaxLevel), api.ErrOrder}, // no error behind
	} {
		same(t, tide.CheckGauge(c.g), c.want, "CheckGauge", c.g)
	}
}

func TestP21CheckGauges(t *testing.T) {
	at := func(name string, x int) api.Gauge { return api.Gauge{Name: name, X: x} }
	six := []api.Gauge{at("a", 1), at("b", 2), at("c", 3), at("d", 4), at("e", 5), at("f", 6)}
	large := full(401)
	large.X = -9
	for _, c := range []struct {
		l    []api.Gauge
		want api.Errno
	}{
		{nil, api.OK},
		{[]api.Gauge{}, api.OK},
		{[]api.Gauge{pier()}, api.OK},
		{[]api.Gauge{pier(), lock()}, api.OK},
		{[]api.Gauge{lock(), pier()}, api.ErrOrder},
		{six, api.OK},
		{append(six[:6:6], at("", 7)), api.ErrLarge},
		{make([]api.Gauge, 7), api.ErrLarge},
		{[]api.Gauge{at("a", 1), at("", 0)}, api.ErrName},
		{[]api.Gauge{at("a", 1), at("a", 2)}, api.ErrExists},
		{[]api.Gauge{at("a", 1), at("A", 2)}, api.OK},
		{[]api.Gauge{at("a", 1), at("b", 2), at("a", 3)}, api.ErrExists},
		{[]api.Gauge{at("a", 1), at("a", math.MaxInt)}, api.ErrExists}, // before ErrRange
		{[]api.Gauge{at("a", 1), at("a", 1)}, api.ErrExists},           // before ErrOrder
		{[]api.Gauge{at("a", 1), at("b", math.MinInt)}, api.ErrRange},
		{[]api.Gauge{at("a", 1), large}, api.ErrLarge}, // before ErrOrder
		{[]api.Gauge{at("a", 1), {Name: "b", X: 0, Marks: marks(-1, 0)}}, api.ErrRange},
		{[]api.Gauge{at("a", 1), at("b", 1)}, api.ErrOrder},
		{[]api.Gauge{at("a", 1), at("b", 0)}, api.ErrOrder},
		{[]api.Gauge{at("a", 1), at("b", 0), at("", 0)}, api.ErrOrder}, // the second gauge comes before the third one
		{[]api.Gauge{at("a", 1), at("b", 3), at("c", 2)}, api.ErrOrder},
	} {
		same(t, tide.CheckGauges(c.l), c.want, "CheckGauges", c.l)
	}
}

// Whatever else is wrong, the error of the gauges comes first.
func TestP21AllFunctions(t *testing.T) {
	for _, g := range []api.Gauge{
		{}, {Name: "g", X: math.MinInt}, {Name: "g", Error: -1}, full(401), exact(-1, 0), exact(0, math.MaxInt), exact(0, 0, 0, 0),
	} {
		want := tide.CheckGauge(g)
		allRefused(t, gaugeCalls(g), want, g)
		allRefused(t, listCalls([]api.Gauge{g}, math.MaxInt, api.Window{From: -1}), want, g)
	}
	for _, l := range [][]api.Gauge{
		{pier(), pier()}, {lock(), pier()}, make([]api.Gauge, 7), {pier(), lock(), {}},
	} {
		allRefused(t, listCalls(l, math.MaxInt, api.Window{From: -1}), tide.CheckGauges(l), l)
	}
}
