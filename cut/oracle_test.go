package cut_test

import (
	"slices"

	"draghead/api"
	"draghead/bed"
	"draghead/geometry"
	"draghead/soil"
	"draghead/tide"
)

// The rules of the chapter once more, cell by cell, minute by minute and centimetre by centimetre.

// isIn reports whether a cell is in the footprint.
func isIn(m api.Grid, c api.Cut, i int) bool {
	col, row := i%m.Cols, i/m.Cols
	return col >= c.Col && col < c.Col+c.Cols && row >= c.Row && row < c.Row+c.Rows
}

// cellsOf is the footprint.
func cellsOf(m api.Grid, c api.Cut) []int {
	var out []int
	for i := range m.Cols * m.Rows {
		if isIn(m, c, i) {
			out = append(out, i)
		}
	}
	return out
}

// lowers reports whether a cell is lowered.
func lowers(m api.Grid, c api.Cut, i int) bool {
	return isIn(m, c, i) && m.Levels[i] != u && m.Levels[i] > c.Level
}

// bedAfter is the bed behind cuts.
func bedAfter(m api.Grid, l ...api.Cut) api.Grid {
	for _, c := range l {
		next := slices.Clone(m.Levels)
		for i := range next {
			if lowers(m, c, i) {
				next[i] = c.Level
			}
		}
		m.Levels = next
	}
	return m
}

func dredgerOf(s api.Site, c api.Cut) api.Dredger {
	for _, d := range s.Dredgers {
		if d.Name == c.Dredger {
			return d
		}
	}
	panic("there is no such dredger")
}

// outputOf is the output of the dredger of a cut for a soil, and whether it has one.
func outputOf(s api.Site, c api.Cut, soil string) (api.Output, bool) {
	for _, o := range dredgerOf(s, c).Outputs {
		if o.Soil == soil {
			return o, true
		}
	}
	return api.Output{}, false
}

func centreOf(m api.Grid, i int) api.Point {
	p, _ := bed.Centre(m, i)
	return p
}

// through is how many centimetres of each soil a cut takes from a cell.
func through(s api.Site, m api.Grid, c api.Cut, i int) map[string]int {
	out := map[string]int{}
	if lowers(m, c, i) {
		for level := m.Levels[i]; level > c.Level; level-- {
			name, _ := soil.At(s.Ground, centreOf(m, i), level)
			out[name]++
		}
	}
	return out
}

// taken is what a cut takes.
func taken(s api.Site, m api.Grid, c api.Cut) []api.Share {
	sums := map[string]int{}
	for i := range m.Levels {
		for name, n := range through(s, m, c, i) {
			sums[name] += n
		}
	}
	var out []api.Share
	for _, x := range s.Ground.Soils {
		out = append(out, api.Share{Soil: x.Name, Volume: sums[x.Name] * m.Side * m.Side})
	}
	return out
}

// ceil is a quotient, rounded up.
func ceil(n, by int) int {
	out := n / by
	if out*by < n {
		out++
	}
	return out
}

// effort is the minutes and the price of a cut, and whether there is an output for each soil that it takes.
func effort(s api.Site, m api.Grid, c api.Cut) (minutes, price int, is bool) {
	for _, x := range taken(s, m, c) {
		if x.Volume > 0 {
			o, has := outputOf(s, c, x.Soil)
			if !has {
				return 0, 0, false
			}
			minutes += ceil(60*x.Volume, 1000000*o.Rate)
			price += ceil(x.Volume*o.Wear, 1000000)
		}
	}
	return minutes, price + ceil(minutes*dredgerOf(s, c).Hour, 60), true
}

// refusal is the rule by which a cut is refused, and whether there is one.
func refusal(s api.Site, m api.Grid, c api.Cut) (api.Violation, bool) {
	cells := cellsOf(m, c)
	minutes, _, _ := effort(s, m, c)
	if !isForm(dredgerOf(s, c), c.Cols, c.Rows) {
		return violation(0, cells[0], api.ErrForm), true
	}
	for _, rule := range []func(api.Site, api.Grid, api.Cut, int) api.Errno{isUnknown, isInZone, isDeep, isForeign} {
		for _, i := range cells {
			if e := rule(s, m, c, i); e != api.OK {
				return violation(0, i, e), true
			}
		}
	}
	if minutes > 3000 || c.Start+minutes-1 > latest {
		return violation(0, cells[0], api.ErrLarge), true
	}
	for _, rule := range []func(api.Site, api.Grid, api.Cut, int) api.Errno{isUnreached, isUnder} {
		for _, i := range cells {
			if e := rule(s, m, c, i); e != api.OK {
				return violation(0, i, e), true
			}
		}
	}
	return tooSteep(s, m, c)
}

func isForm(d api.Dredger, cols, rows int) bool {
	for _, size := range [][2]int{{cols, rows}, {rows, cols}} {
		switch {
		case d.Kind == api.Trailer && size[0] <= size[1] && size[0] <= d.Across && size[1] >= d.Along:
			return true
		case d.Kind != api.Trailer && size[0] <= d.Across && size[1] <= d.Along:
			return true
		case d.Kind == api.Cutter:
			return false
		}
	}
	return false
}

func isUnknown(s api.Site, m api.Grid, c api.Cut, i int) api.Errno {
	return unless(m.Levels[i] != u, api.ErrUnknown)
}

func isInZone(s api.Site, m api.Grid, c api.Cut, i int) api.Errno {
	return unless(!inZone(s, i), api.ErrZone)
}

func isDeep(s api.Site, m api.Grid, c api.Cut, i int) api.Errno {
	return unless(m.Levels[i] <= c.Level+dredgerOf(s, c).Bite, api.ErrCapacity)
}

func isForeign(s api.Site, m api.Grid, c api.Cut, i int) api.Errno {
	for name := range through(s, m, c, i) {
		if _, has := outputOf(s, c, name); !has {
			return api.ErrMissing
		}
	}
	return api.OK
}

func isUnreached(s api.Site, m api.Grid, c api.Cut, i int) api.Errno {
	out := api.OK
	minutes, _, _ := effort(s, m, c)
	for k := range minutes {
		v, e := tide.Level(s.Gauges, centreOf(m, i).X, c.Start+k)
		if lowers(m, c, i) && e != api.OK {
			return e
		}
		if lowers(m, c, i) && v.Hi > c.Level+dredgerOf(s, c).Depth {
			out = api.ErrReach
		}
	}
	return out
}

func isUnder(s api.Site, m api.Grid, c api.Cut, i int) api.Errno {
	for _, q := range s.Quays {
		w, _ := soil.Wedge(q, m)
		if lowers(m, c, i) && w.Levels[i] != u && w.Levels[i] > c.Level {
			return api.ErrQuay
		}
	}
	return api.OK
}

func unless(right bool, e api.Errno) api.Errno {
	if right {
		return api.OK
	}
	return e
}

// inZone reports whether a cell of the site touches a zone.
func inZone(s api.Site, i int) bool {
	m := s.Bed
	for _, z := range s.Zones {
		x, y := m.X+i%m.Cols*m.Side, m.Y+i/m.Cols*m.Side
		if is, _ := geometry.Touches(z.Corners, at(x, y), at(x+m.Side, y+m.Side)); is {
			return true
		}
	}
	return false
}

// tooSteep looks at all pairs of cells, one of them lowered.
func tooSteep(s api.Site, m api.Grid, c api.Cut) (api.Violation, bool) {
	after := bedAfter(m, c)
	for a := range after.Levels {
		near, _ := bed.Near(after, a)
		for _, b := range near {
			if b < a || after.Levels[a] == u || after.Levels[b] == u || !lowers(m, c, a) && !lowers(m, c, b) {
				continue
			}
			most, _ := soil.Allowed(s.Ground, m, a, b)
			if after.Levels[a]-after.Levels[b] > most {
				return violation(0, b, api.ErrSlope), true
			}
			if after.Levels[b]-after.Levels[a] > most {
				return violation(0, a, api.ErrSlope), true
			}
		}
	}
	return api.Violation{}, false
}

// firstOf is the first violation of a plan, and whether there is one.
func firstOf(s api.Site, l []api.Cut) (api.Violation, bool) {
	for k, c := range l {
		m := bedAfter(s.Bed, l[:k]...)
		corner := c.Row*m.Cols + c.Col
		if k > 0 && l[k-1].Start > c.Start {
			return violation(k, corner, api.ErrOrder), true
		}
		if isBusy(s, l, k) {
			return violation(k, corner, api.ErrTraffic), true
		}
		if v, is := refusal(s, m, c); is {
			return violation(k, v.Cell, v.Rule), true
		}
	}
	return api.Violation{}, false
}

// isBusy looks at each minute of a cut, and at each cell.
func isBusy(s api.Site, l []api.Cut, k int) bool {
	for e := range k {
		minutes, _, _ := effort(s, bedAfter(s.Bed, l[:k]...), l[k])
		others, _, _ := effort(s, bedAfter(s.Bed, l[:e]...), l[e])
		for n := range minutes {
			minute := l[k].Start + n
			if minute < l[e].Start || minute >= l[e].Start+others {
				continue
			}
			if l[k].Dredger == l[e].Dredger {
				return true
			}
			for i := range s.Bed.Levels {
				if isIn(s.Bed, l[k], i) && isIn(s.Bed, l[e], i) {
					return true
				}
			}
		}
	}
	return false
}

// numbers is a sequence that looks irregular and is always the same.
type numbers struct{ state uint64 }

// next is a number from 0 to below n.
func (s *numbers) next(n int) int {
	s.state = s.state*6364136223846793005 + 1442695040888963407
	return int(s.state>>33) % n
}

// around is a number from -most to most.
func (s *numbers) around(most int) int {
	return s.next(2*most+1) - most
}

// site is a site with at most so many columns and rows; hard is how often something stands in the way of a cut.
func (s *numbers) site(cells, hard int) api.Site {
	out := api.Site{Bed: frame(s.around(500), s.around(500), 100+s.next(200), 1+s.next(cells), 1+s.next(cells))}
	out.Bed = s.again(out.Bed, hard)
	out.Ground = s.ground(out.Bed)
	for s.next(12) < hard && len(out.Zones) < 3 {
		z := api.Region{Name: letter(len(out.Zones)), Corners: []api.Point{s.place(out.Bed), s.place(out.Bed), s.place(out.Bed)}}
		if geometry.CheckPolygon(z.Corners) == api.OK {
			out.Zones = append(out.Zones, z)
		}
	}
	for s.next(8) < hard && len(out.Quays) < 3 {
		q := api.Quay{Name: letter(len(out.Quays)), A: s.place(out.Bed), B: s.place(out.Bed), Level: -520 - s.next(80), Run: 20 + s.next(200)}
		if q.A != q.B {
			out.Quays = append(out.Quays, q)
		}
	}
	x := s.around(800)
	for k := range []int{1, 1, 2, 3}[s.next(4)] {
		out.Gauges = append(out.Gauges, s.gauge(letter(k), x, hard))
		x += 1 + s.next(600)
	}
	for k := range 1 + s.next(3) {
		out.Dredgers = append(out.Dredgers, s.dredger(letter(k), out.Ground, hard))
	}
	return out
}

// again is a grid with the same cells and other levels.
func (s *numbers) again(g api.Grid, hard int) api.Grid {
	g.Levels = nil
	for range g.Cols * g.Rows {
		if s.next(40) < hard {
			g.Levels = append(g.Levels, u)
		} else {
			g.Levels = append(g.Levels, s.around(15)-500)
		}
	}
	return g
}

// place is a place on a grid or near it.
func (s *numbers) place(g api.Grid) api.Point {
	return at(g.X-g.Side+s.next((g.Cols+2)*g.Side), g.Y-g.Side+s.next((g.Rows+2)*g.Side))
}

func (s *numbers) ground(g api.Grid) api.Ground {
	var out api.Ground
	for k := range 1 + s.next(3) {
		out.Soils = append(out.Soils, kind(letter(k), 4+s.next(20)))
	}
	for k := range 1 + s.next(3) {
		b := api.Boring{Name: letter(k), X: s.place(g).X, Y: s.place(g).Y}
		top := -450 - s.next(50)
		for range 1 + s.next(3) {
			b.Layers = append(b.Layers, layer(top, letter(s.next(len(out.Soils)))))
			top -= 1 + s.next(60)
		}
		out.Borings = append(out.Borings, b)
	}
	return out
}

func (s *numbers) gauge(name string, x, hard int) api.Gauge {
	out := gauge(name, x, s.next(15), mark(0, s.around(30)))
	for minute := s.next(300); minute < 3000 && s.next(20) >= hard; minute += 1 + s.next(900) {
		if minute > 0 {
			out.Marks = append(out.Marks, mark(minute, s.around(40)))
		}
	}
	if s.next(12) >= hard {
		out.Marks = append(out.Marks, mark(latest, s.around(40)))
	}
	return out
}

func (s *numbers) dredger(name string, g api.Ground, hard int) api.Dredger {
	out := api.Dredger{
		Name: name, Kind: s.next(3), Across: 1 + s.next(4) + 3*s.next(2), Along: 1 + s.next(4),
		Depth: 680 - s.next(20+40*hard), Bite: 90 - s.next(10+15*hard), Hour: s.next(10000),
	}
	if out.Kind != api.Trailer {
		out.Along += 3 * s.next(2)
	}
	for _, x := range g.Soils {
		if s.next(12) >= hard {
			out.Outputs = append(out.Outputs, output(x.Name, 1+s.next(8), s.next(1000)))
		}
	}
	return out
}

// cuts is so many cuts on a site.
func (s *numbers) cuts(site api.Site, n int) []api.Cut {
	var out []api.Cut
	start := s.next(100)
	for k := range n {
		col, row := s.next(site.Bed.Cols), s.next(site.Bed.Rows)
		c := area(letter(k), col, row, 1+s.next(site.Bed.Cols-col), 1+s.next(site.Bed.Rows-row), -490-s.next(90), start)
		out = append(out, by(c, letter(s.next(len(site.Dredgers)))))
		start += s.next(160) - 5
		start = max(start, 0)
	}
	if s.next(12) == 0 { // at the end of all minutes
		out[n-1].Start = latest - s.next(30)
	}
	return out
}
