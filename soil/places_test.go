package soil_test

import (
	"math"
	"testing"

	"draghead/api"
	"draghead/soil"
)

func part(name string, top, bottom int) api.Part {
	return api.Part{Soil: name, Top: top, Bottom: bottom}
}

// layered is a ground with four layers, one of which is a centimetre thick; the soil of two of them is the same.
func layered() api.Ground {
	return api.Ground{Soils: soils(10, 20, 30), Borings: []api.Boring{
		boring("B", 0, 0, layer(-100, "a"), layer(-200, "b"), layer(-300, "a"), layer(-301, "c")),
	}}
}

func TestP62Nearest(t *testing.T) {
	const far = farthest
	borings := []api.Boring{
		boring("A", 0, 0, layer(0, "mud")), boring("B", 1000, 0, layer(0, "mud")), boring("C", 1000, 0, layer(0, "mud")),
		boring("D", 0, 600, layer(0, "mud")), boring("E", far, far, layer(0, "mud")),
	}
	g := api.Ground{Soils: example().Soils, Borings: borings}
	for _, x := range []struct {
		p    api.Point
		want int
	}{
		{at(0, 0), 0},
		{at(500, 0), 0}, // both are 500 away, the first one counts
		{at(501, 0), 1}, // of two borings at one place, too
		{at(1000, 0), 1},
		{at(-5000, 0), 0},
		{at(0, 300), 0},
		{at(0, 301), 3},
		{at(0, 299), 0},
		{at(500, 400), 3}, // 640 from A and B, 538 from D
		{at(far, far), 4},
		{at(far, -far), 1},
		{at(-far, far), 3},
		{at(-far, -far), 0},
		{at(far/2+600, far/2), 4},
		{at(far/2+400, far/2), 1},
		{at(-1000, far/2), 3},
	} {
		got, e := soil.Nearest(g, x.p)
		same(t, e, api.OK, "Nearest", x)
		same(t, got, x.want, "Nearest", x)
	}
}

func TestP62At(t *testing.T) {
	for _, x := range []struct {
		g     api.Ground
		p     api.Point
		level int
		want  string
	}{
		{example(), at(0, 0), -700, "sand"},
		{example(), at(0, 0), -699, "mud"},
		{example(), at(0, 0), -500, "mud"},
		{example(), at(0, 0), -499, "mud"},
		{example(), at(0, 0), 100, "mud"},
		{example(), at(0, 0), -701, "sand"},
		{example(), at(0, 0), highest, "mud"},
		{example(), at(0, 0), -highest, "sand"},
		{example(), at(500, 7), -650, "mud"},
		{example(), at(501, 7), -650, "sand"},
		{example(), at(501, 7), 0, "sand"},
		{layered(), at(farthest, -farthest), -99, "a"},
		{layered(), at(0, 0), -199, "a"},
		{layered(), at(0, 0), -200, "b"},
		{layered(), at(0, 0), -299, "b"},
		{layered(), at(0, 0), -300, "a"},
		{layered(), at(0, 0), -301, "c"},
		{layered(), at(0, 0), -302, "c"},
	} {
		got, e := soil.At(x.g, x.p, x.level)
		same(t, e, api.OK, "At", x)
		same(t, got, x.want, "At", x)
	}
}

func TestP62Column(t *testing.T) {
	for _, x := range []struct {
		g        api.Ground
		p        api.Point
		from, to int
		want     []api.Part
	}{
		{example(), at(0, 0), -400, -800, []api.Part{part("mud", -400, -700), part("sand", -700, -800)}},
		{example(), at(501, 0), -400, -800, []api.Part{part("sand", -400, -800)}},
		{layered(), at(0, 0), 0, -400, []api.Part{part("a", 0, -200), part("b", -200, -300), part("a", -300, -301), part("c", -301, -400)}},
		{layered(), at(0, 0), highest, -highest, []api.Part{part("a", highest, -200), part("b", -200, -300), part("a", -300, -301), part("c", -301, -highest)}},
		{layered(), at(0, 0), -200, -300, []api.Part{part("b", -200, -300)}},
		{layered(), at(0, 0), -199, -301, []api.Part{part("a", -199, -200), part("b", -200, -300), part("a", -300, -301)}},
		{layered(), at(0, 0), -250, -260, []api.Part{part("b", -250, -260)}},
		{layered(), at(0, 0), -300, -301, []api.Part{part("a", -300, -301)}},
		{layered(), at(0, 0), -301, -302, []api.Part{part("c", -301, -302)}},
		{layered(), at(0, 0), -50, -100, []api.Part{part("a", -50, -100)}},
		{layered(), at(0, 0), 5, 4, []api.Part{part("a", 5, 4)}},
		{layered(), at(0, 0), -100, -100, nil},
		{layered(), at(0, 0), -300, -300, nil},
		{layered(), at(0, 0), -250, -250, nil},
		{layered(), at(0, 0), highest, highest, nil},
		{layered(), at(0, 0), -highest, -highest, nil},
		// Layers of one soil stay apart.
		{with1(boring("B", 0, 0, layer(0, "mud"), layer(-5, "mud"))), at(9, 9), 0, -9, []api.Part{part("mud", 0, -5), part("mud", -5, -9)}},
	} {
		got, e := soil.Column(x.g, x.p, x.from, x.to)
		same(t, e, api.OK, "Column", x)
		sameList(t, got, x.want, "Column", x)
	}
}

func TestP62Errors(t *testing.T) {
	const far, high = farthest, highest
	for _, p := range []api.Point{at(far+1, 0), at(-far-1, 0), at(0, far+1), at(0, -far-1), at(math.MinInt, math.MaxInt)} {
		same(t, of(soil.Nearest(example(), p)), refused(api.ErrRange), "Nearest", p)
		same(t, of(soil.At(example(), p, 0)), refused(api.ErrRange), "At", p)
		same(t, of(soil.Column(example(), p, 0, 0)), refused(api.ErrRange), "Column", p)
		same(t, of(soil.Column(example(), p, 0, 5)), refused(api.ErrRange), "Column upwards", p) // before ErrOrder
	}
	for _, level := range []int{high + 1, -high - 1, u, math.MinInt, math.MaxInt} {
		same(t, of(soil.At(example(), at(0, 0), level)), refused(api.ErrRange), "At", level)
		same(t, of(soil.Column(example(), at(0, 0), level, 0)), refused(api.ErrRange), "Column", level)
		same(t, of(soil.Column(example(), at(0, 0), 0, level)), refused(api.ErrRange), "Column", level)
	}
	same(t, of(soil.Column(example(), at(0, 0), -1, 0)), refused(api.ErrOrder), "Column upwards")
	same(t, of(soil.Column(example(), at(0, 0), -high, high)), refused(api.ErrOrder), "Column upwards")
}

func TestP62Computed(t *testing.T) {
	s := &numbers{62}
	for range 1500 {
		most := []int{3, 100, 3000, farthest}[s.next(4)]
		g, p := s.ground(most), at(s.around(most), s.around(most))
		k, e := soil.Nearest(g, p)
		same(t, e, api.OK, "Nearest", g, p)
		same(t, g.Borings[k].Name, boringAt(g, p).Name, "Nearest", g, p)
		from := s.around(800)
		to := from - s.next(900)
		for level := from; level >= to; level -= 1 + s.next(9) {
			got, e := soil.At(g, p, level)
			same(t, e, api.OK, "At", g, p, level)
			same(t, got, soilOf(g, p, level), "At", g, p, level)
		}
		l, e := soil.Column(g, p, from, to)
		same(t, e, api.OK, "Column", g, p, from, to)
		sameList(t, l, partsOf(boringAt(g, p), from, to), "Column", g, p, from, to)
	}
}

// partsOf is the layers of a boring centimetre by centimetre.
func partsOf(b api.Boring, from, to int) []api.Part {
	var out []api.Part
	k := 0
	for level := from; level > to; level-- {
		isNew := level == from
		for k+1 < len(b.Layers) && b.Layers[k+1].Top >= level {
			k, isNew = k+1, true
		}
		if isNew {
			out = append(out, part(b.Layers[k].Soil, level, level-1))
		} else {
			out[len(out)-1].Bottom--
		}
	}
	return out
}
