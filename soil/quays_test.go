package soil_test

import (
	"math"
	"testing"

	"draghead/api"
	"draghead/soil"
)

// quay is a quay with the ends (ax, ay) and (bx, by).
func quay(ax, ay, bx, by, level, run int) api.Quay {
	return api.Quay{Name: "q", A: at(ax, ay), B: at(bx, by), Level: level, Run: run}
}

// wall is the quay of the chapter's examples.
func wall() api.Quay { return quay(0, 0, 1000, 0, -800, 20) }

// cellAt is a grid of one cell with this centre.
func cellAt(x, y, level int) api.Grid { return with(frame(x-50, y-50, 100, 1, 1), level) }

func TestP66CheckQuay(t *testing.T) {
	const far = farthest
	for _, q := range []api.Quay{
		wall(), quay(-far, -far, far, far, highest, 1), quay(far, -far, -far, far, -highest, 1000), quay(0, 0, 0, 1, 0, 1),
		{Name: "A-1234567890", B: at(1, 0), Run: 1},
	} {
		same(t, soil.CheckQuay(q), api.OK, "CheckQuay", q)
	}
	for _, x := range []struct {
		q    api.Quay
		want api.Errno
	}{
		{api.Quay{}, api.ErrName},
		{api.Quay{Name: "9", B: at(1, 0), Run: 1}, api.ErrName},
		{api.Quay{Name: "A-12345678901", B: at(1, 0), Run: 1}, api.ErrName},
		{api.Quay{Name: "a b", B: at(1, 0), Run: 1}, api.ErrName},
		{quay(far+1, 0, far+1, 0, 0, 1), api.ErrRange}, // before ErrForm
		{quay(-far-1, 0, 0, 0, 0, 1), api.ErrRange},
		{quay(0, far+1, 0, 0, 0, 1), api.ErrRange},
		{quay(0, -far-1, 0, 0, 0, 1), api.ErrRange},
		{quay(0, 0, far+1, 0, 0, 1), api.ErrRange},
		{quay(0, 0, -far-1, 0, 0, 1), api.ErrRange},
		{quay(0, 0, 0, far+1, 0, 1), api.ErrRange},
		{quay(0, 0, 0, math.MinInt, 0, 1), api.ErrRange},
		{quay(0, 0, 1, 0, highest+1, 1), api.ErrRange},
		{quay(0, 0, 1, 0, -highest-1, 1), api.ErrRange},
		{quay(0, 0, 1, 0, math.MinInt, 1), api.ErrRange},
		{quay(0, 0, 1, 0, 0, 0), api.ErrRange},
		{quay(0, 0, 1, 0, 0, 1001), api.ErrRange},
		{quay(0, 0, 1, 0, 0, math.MinInt), api.ErrRange},
		{quay(5, 5, 5, 5, 0, 0), api.ErrRange},
		{quay(5, 5, 5, 5, 0, 1), api.ErrForm},
		{quay(0, 0, 0, 0, 0, 1), api.ErrForm},
	} {
		allRefused(t, quayCalls(x.q), x.want, x)
	}
	for _, x := range []struct {
		m    api.Grid
		want api.Errno
	}{
		{frame(farthest+1, 0, 100, 1, 1), api.ErrRange},
		{frame(0, 0, 100, 1024, 2), api.ErrLarge},
		{frame(0, 0, 100, 2, 1), api.ErrShape},
		{with(frame(0, 0, 100, 2, 1), 0, highest+1), api.ErrRange},
	} {
		allRefused(t, frontCalls(wall(), x.m), x.want, x)
	}
}

func TestP66Wedge(t *testing.T) {
	slant := quay(0, 0, 100, 100, -800, 20) // its span is 142
	for _, x := range []struct {
		q          api.Quay
		x, y, want int
	}{
		{wall(), 500, 400, -1000},
		{wall(), 500, 0, -800}, // on the line
		{wall(), 500, -1, u},   // on the land side
		{wall(), 500, 1, -800}, // 10/20, rounded down
		{wall(), 500, 2, -801},
		{wall(), 500, 399, -999},
		{wall(), 500, 401, -1000},
		{wall(), 0, 400, -1000},
		{wall(), -1, 400, u},
		{wall(), 0, 0, -800},
		{wall(), 1000, 0, -800},
		{wall(), 1000, 400, -1000},
		{wall(), 1001, 400, u},
		{wall(), 1001, 0, u},
		{wall(), -1, 0, u},
		{quay(1000, 0, 0, 0, -800, 20), 500, -400, -1000}, // the water on the other side
		{quay(1000, 0, 0, 0, -800, 20), 500, 400, u},
		{quay(0, 0, 0, 1000, -800, 20), -400, 500, -1000},
		{quay(0, 0, 0, 1000, -800, 20), 400, 500, u},
		{quay(0, 0, 300, 400, -800, 20), 150 - 80, 200 + 60, -850}, // 100 off its middle
		{quay(0, 0, 300, 400, -800, 20), 150 + 80, 200 - 60, u},
		// Along is rounded down: it ends a little behind the end of the quay, but begins at its beginning.
		{slant, 101, 101, -800},
		{slant, 101, 102, -800},
		{slant, 102, 102, u},
		{slant, -1, 1, -800},
		{slant, -1, 0, u},
		{slant, -2, 1, u},
		{slant, 0, 20, -807}, // the offset is 2000 / 142, rounded down: 14
		// The wedge ends at the lowest level.
		{quay(0, 0, 1000, 0, -19900, 20), 500, 200, -20000},
		{quay(0, 0, 1000, 0, -19900, 20), 500, 201, -20000},
		{quay(0, 0, 1000, 0, -19900, 20), 500, 202, u},
		{quay(0, 0, 1000, 0, -highest, 1000), 500, 99, -highest},
		{quay(0, 0, 1000, 0, -highest, 1000), 500, 100, u},
		{quay(0, 0, 1000, 0, highest, 1), 500, 4000, -highest},
		{quay(0, 0, 1000, 0, highest, 1), 500, 4001, u},
		{quay(0, 0, 1000, 0, highest, 1000), 500, 900000, highest - 9000},
	} {
		for _, level := range []int{u, 0, -1500} { // whether the cell is known does not matter
			m := cellAt(x.x, x.y, level)
			got, e := soil.Wedge(x.q, m)
			same(t, e, api.OK, "Wedge", x)
			sameGrid(t, got, with(m, x.want), "Wedge", x)
		}
		for _, level := range []int{u, x.want, x.want - 1, x.want + 1, highest, -highest} {
			if level != u && (level > highest || level < -highest) {
				continue
			}
			var want []int
			if level != u && x.want != u && level < x.want {
				want = []int{0}
			}
			got, e := soil.Undermined(x.q, cellAt(x.x, x.y, level))
			same(t, e, api.OK, "Undermined", x, level)
			sameList(t, got, want, "Undermined", x, level)
		}
	}
	m := with(frame(450, -150, 100, 2, 4), -1, -2, u, -801, -800, -850, -901, -899)
	got, e := soil.Wedge(wall(), m)
	same(t, e, api.OK, "Wedge")
	sameGrid(t, got, with(m, u, u, -800, -800, -850, -850, -900, -900), "Wedge")
	l, e := soil.Undermined(wall(), m)
	same(t, e, api.OK, "Undermined")
	sameList(t, l, []int{3, 6}, "Undermined")
}

func TestP66Computed(t *testing.T) {
	s := &numbers{66}
	wedges, none, below := 0, 0, 0
	for range 1500 {
		most := []int{150, 1000, 3000, farthest}[s.next(4)]
		q := quay(s.around(most), s.around(most), s.around(most), s.around(most), -s.next(1000), 1+s.next([]int{20, 1000}[s.next(2)]))
		if q.A == q.B {
			continue
		}
		m := s.grid(most, 5)
		want, under := with(m), []int(nil)
		for i, level := range m.Levels {
			p, span := centreOf(m, i), root(dot(q.A, q.B, q.B))
			along, offset := down(dot(q.A, q.B, p), span), down(turn(q.A, q.B, p), span)
			line := q.Level - 10*offset/q.Run
			if turn(q.A, q.B, p).Sign() < 0 || along < 0 || along > int(span.Int64()) || line < -highest {
				line = u
				none++
			} else if wedges++; level != u && level < line {
				under = append(under, i)
				below++
			}
			want.Levels = append(want.Levels, line)
		}
		got, e := soil.Wedge(q, m)
		same(t, e, api.OK, "Wedge", q, m)
		sameGrid(t, got, want, "Wedge", q, m)
		l, e := soil.Undermined(q, m)
		same(t, e, api.OK, "Undermined", q, m)
		sameList(t, l, under, "Undermined", q, m)
	}
	same(t, wedges > 1000 && none > 1000 && below > 300, true, "all kinds of cells are looked at", wedges, none, below)
}
