package soil_test

import (
	"math"
	"testing"

	"draghead/api"
	"draghead/geometry"
	"draghead/soil"
)

// sample is a sample at a place, between two levels.
func sample(name, substance string, x, y, top, bottom, value int) api.Sample {
	return api.Sample{Name: name, Substance: substance, X: x, Y: y, Top: top, Bottom: bottom, Value: value}
}

// lot is samples of a substance with these values.
func lot(substance string, values ...int) []api.Sample {
	var out []api.Sample
	for k, n := range values {
		out = append(out, sample(substance+string([]byte{byte('A' + k/26), byte('a' + k%26)}), substance, 100*k, 0, -500, -600, n))
	}
	return out
}

func TestP68Samples(t *testing.T) {
	const far, high = farthest, highest
	for _, l := range [][]api.Sample{
		nil,
		lot("zinc", 1, 2, 3),
		lot("zinc", make([]int, 60)...),
		{sample("a", "a", far, -far, high, -high, 1000000000), sample("A", "a", -far, far, -high+1, -high, 0)},
		{sample("A-1234567890", "B-1234567890", 0, 0, 1, 0, 0)},
		{sample("a", "b", 0, 0, 1, 0, 0), sample("b", "a", 0, 0, 1, 0, 0)}, // substances and names have nothing to do with each other
	} {
		same(t, soil.CheckSamples(l), api.OK, "CheckSamples", l)
	}
	one := sample("a", "a", 0, 0, 1, 0, 0)
	for _, x := range []struct {
		l    []api.Sample
		want api.Errno
	}{
		{make([]api.Sample, 61), api.ErrLarge},
		{lot("zinc", make([]int, 61)...), api.ErrLarge},
		{make([]api.Sample, 60), api.ErrName},
		{[]api.Sample{sample("", "a", 0, 0, 1, 0, 0)}, api.ErrName},
		{[]api.Sample{sample("a", "", 0, 0, 1, 0, 0)}, api.ErrName},
		{[]api.Sample{sample("9", "a", far+1, 0, 1, 0, 0)}, api.ErrName},
		{[]api.Sample{sample("a", "a b", 0, 0, 1, 0, -1)}, api.ErrName},
		{[]api.Sample{sample("A-12345678901", "a", 0, 0, 1, 0, 0)}, api.ErrName},
		{[]api.Sample{sample("a", "A-12345678901", 0, 0, 1, 0, 0)}, api.ErrName},
		{[]api.Sample{one, sample("a", "-", 0, 0, 1, 0, 0)}, api.ErrName}, // before ErrExists
		{[]api.Sample{one, sample("a", "b", far+1, 0, 1, 0, 0)}, api.ErrExists},
		{[]api.Sample{one, sample("b", "b", 0, 0, 1, 0, 0), one}, api.ErrExists},
		{[]api.Sample{sample("b", "b", far+1, 0, 1, 0, 0), one, one}, api.ErrRange},
		{[]api.Sample{sample("a", "a", far+1, 0, 0, 0, 0)}, api.ErrRange}, // before ErrOrder
		{[]api.Sample{sample("a", "a", -far-1, 0, 1, 0, 0)}, api.ErrRange},
		{[]api.Sample{sample("a", "a", 0, far+1, 1, 0, 0)}, api.ErrRange},
		{[]api.Sample{sample("a", "a", 0, math.MinInt, 1, 0, 0)}, api.ErrRange},
		{[]api.Sample{sample("a", "a", 0, 0, high+1, 0, 0)}, api.ErrRange},
		{[]api.Sample{sample("a", "a", 0, 0, -high-1, 0, 0)}, api.ErrRange},
		{[]api.Sample{sample("a", "a", 0, 0, 0, -high-1, 0)}, api.ErrRange},
		{[]api.Sample{sample("a", "a", 0, 0, 0, high+1, 0)}, api.ErrRange},
		{[]api.Sample{sample("a", "a", 0, 0, 1, 0, -1)}, api.ErrRange},
		{[]api.Sample{sample("a", "a", 0, 0, 1, 0, 1000000001)}, api.ErrRange},
		{[]api.Sample{sample("a", "a", 0, 0, 0, 0, math.MaxInt)}, api.ErrRange},
		{[]api.Sample{sample("a", "a", 0, 0, 0, 0, 0)}, api.ErrOrder},
		{[]api.Sample{sample("a", "a", 0, 0, 0, 1, 0)}, api.ErrOrder},
		{[]api.Sample{one, sample("b", "b", 0, 0, -5, -5, 0), {}}, api.ErrOrder},
	} {
		allRefused(t, sampleCalls(x.l), x.want, x)
	}
}

func TestP68Chosen(t *testing.T) {
	l := []api.Sample{
		sample("corner", "zinc", 0, 0, -500, -600, 1),
		sample("side", "lead", 50, 0, -500, -700, 2),
		sample("inside", "zinc", 50, 50, -600, -700, 3),
		sample("outside", "zinc", 101, 50, -500, -600, 4),
		sample("deep", "tin", 99, 99, -900, -1000, 5),
		sample("below", "tin", 50, -1, 5, -1000, 6),
	}
	box := points(0, 0, 100, 0, 100, 100, 0, 100)
	for _, x := range []struct {
		corners     []api.Point
		top, bottom int
		want        []int
	}{
		{box, highest, -highest, []int{0, 1, 2, 4}},
		{box, -500, -600, []int{0, 1}},
		{box, -599, -600, []int{0, 1}},
		{box, -600, -700, []int{1, 2}},
		{box, -600, -601, []int{1, 2}},
		{box, -599, -601, []int{0, 1, 2}},
		{box, -499, -500, nil},
		{box, 5, -500, nil},
		{box, 5, -501, []int{0, 1}},
		{box, -700, -900, nil},
		{box, -699, -901, []int{1, 2, 4}},
		{box, -699, -900, []int{1, 2}},
		{box, -1000, -2000, nil},
		{box, -999, -2000, []int{4}},
		{box, -550, -560, []int{0, 1}},                                    // within the samples
		{box, -450, -2000, []int{0, 1, 2, 4}},                             // around them
		{points(0, 100, 100, 100, 100, 0, 0, 0), -500, -600, []int{0, 1}}, // clockwise
		{points(49, 49, 51, 49, 51, 51), -500, -700, []int{2}},
		{points(-farthest, -farthest, farthest, -farthest, farthest, farthest, -farthest, farthest), -500, -600, []int{0, 1, 3, 5}},
		{points(500, 500, 600, 500, 600, 600), highest, -highest, nil},
	} {
		var want []api.Sample
		for _, k := range x.want {
			want = append(want, l[k])
		}
		got, e := soil.Chosen(l, x.corners, x.top, x.bottom)
		same(t, e, api.OK, "Chosen", x)
		sameList(t, got, want, "Chosen", x)
	}
	same(t, of(soil.Chosen(nil, box, 5, 0)), refused(api.OK), "Chosen of none")
}

func TestP68ChosenErrors(t *testing.T) {
	const high = highest
	box := points(0, 0, 100, 0, 100, 100, 0, 100)
	for _, x := range []struct {
		corners     []api.Point
		top, bottom int
		want        api.Errno
	}{
		{nil, 0, high + 1, api.ErrShape},
		{box[:2], high + 1, 0, api.ErrShape},
		{make([]api.Point, 41), 0, 0, api.ErrLarge},
		{points(0, 0, farthest+1, 0, 100, 100), 0, 0, api.ErrRange},
		{points(0, 0, 0, 0, 100, 100), high + 1, 0, api.ErrForm},
		{box, high + 1, 0, api.ErrRange},
		{box, -high - 1, 0, api.ErrRange},
		{box, 0, -high - 1, api.ErrRange},
		{box, 0, high + 1, api.ErrRange}, // before ErrOrder
		{box, math.MinInt, math.MaxInt, api.ErrRange},
		{box, 0, 0, api.ErrOrder},
		{box, 0, 1, api.ErrOrder},
		{box, -high, high, api.ErrOrder},
	} {
		for _, l := range [][]api.Sample{nil, lot("zinc", 1, 2)} {
			same(t, of(soil.Chosen(l, x.corners, x.top, x.bottom)), refused(x.want), "Chosen", x)
		}
	}
}

func TestP68ChosenComputed(t *testing.T) {
	s := &numbers{68}
	chosen, others := 0, 0
	for range 1000 {
		var l, want []api.Sample
		for k := range s.next(20) {
			bottom := -s.next(20)
			l = append(l, sample(letter(k), "a", s.around(8), s.around(8), bottom+1+s.next(9), bottom, k))
		}
		var corners []api.Point
		for geometry.CheckPolygon(corners) != api.OK {
			corners = points(s.around(9), s.around(9), s.around(9), s.around(9), s.around(9), s.around(9), s.around(9), s.around(9))
		}
		bottom := -s.next(20)
		top := bottom + 1 + s.next(9)
		for _, x := range l {
			where, _ := geometry.Inside(corners, at(x.X, x.Y))
			isBetween := false
			for level := bottom + 1; level <= top; level++ {
				isBetween = isBetween || x.Bottom < level && level <= x.Top
			}
			if where >= 0 && isBetween {
				want = append(want, x)
			}
		}
		got, e := soil.Chosen(l, corners, top, bottom)
		same(t, e, api.OK, "Chosen", l, corners, top, bottom)
		sameList(t, got, want, "Chosen", l, corners, top, bottom)
		chosen, others = chosen+len(want), others+len(l)-len(want)
	}
	same(t, chosen > 500 && others > 500, true, "all kinds of samples are looked at", chosen, others)
}
