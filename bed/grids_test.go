package bed_test

import (
	"math"
	"slices"
	"testing"

	"draghead/api"
	"draghead/bed"
)

func TestP41Check(t *testing.T) {
	const far = farthest
	for _, g := range []api.Grid{
		example(), later(), flat(frame(0, 0, 100, 1, 1), 0), flat(frame(0, 0, 100, 1, 1), u),
		flat(frame(-far, -far, 10000, 32, 32), -highest), flat(frame(far-100, far-100, 100, 1, 1), highest),
		flat(frame(far-102400, 0, 100, 1024, 1), 5), flat(frame(0, far-102400, 100, 1, 1024), 5),
		flat(frame(-far, 0, 10000, 200, 5), 5), flat(frame(0, -far, 10000, 5, 200), 5),
		with(frame(0, 0, 101, 2, 2), -highest, u, highest, 0),
	} {
		same(t, bed.Check(g), api.OK, "Check", frameOf(g))
	}
	for _, c := range []struct {
		g    api.Grid
		want api.Errno
	}{
		{api.Grid{}, api.ErrRange},
		{flat(frame(-far-1, 0, 100, 1, 1), 0), api.ErrRange},
		{flat(frame(0, -far-1, 100, 1, 1), 0), api.ErrRange},
		{flat(frame(far+1, 0, 100, 1, 1), 0), api.ErrRange},
		{flat(frame(0, far+1, 100, 1, 1), 0), api.ErrRange},
		{flat(frame(0, 0, 99, 1, 1), 0), api.ErrRange},
		{flat(frame(0, 0, 10001, 1, 1), 0), api.ErrRange},
		{flat(frame(0, 0, 10000, 1, 1), 0), api.OK},
		{frame(0, 0, 100, 0, 1), api.ErrRange},
		{frame(0, 0, 100, 1, 0), api.ErrRange},
		{frame(0, 0, 100, -1, -1), api.ErrRange},
		{flat(frame(0, 0, 100, 1025, 1), 0), api.ErrRange}, // not ErrLarge
		{flat(frame(0, 0, 100, 1, 1025), 0), api.ErrRange},
		{flat(frame(0, 0, 100, 25, 41), 0), api.ErrLarge}, // 1025 cells
		{flat(frame(0, 0, 100, 33, 32), 0), api.ErrLarge},
		{frame(0, 0, 100, 1024, 1024), api.ErrLarge},
		{frame(0, 0, 100, 513, 2), api.ErrLarge},
		{frame(far+1, 0, 100, 33, 32), api.ErrRange}, // the first ErrRange before ErrLarge
		{frame(far, 0, 100, 33, 32), api.ErrLarge},   // which comes before the second one
		{flat(frame(far-99, 0, 100, 1, 1), 0), api.ErrRange},
		{flat(frame(0, far-99, 100, 1, 1), 0), api.ErrRange},
		{flat(frame(far, far, 100, 1, 1), 0), api.ErrRange},
		{flat(frame(far-299, 0, 100, 3, 1), 0), api.ErrRange},
		{flat(frame(0, far-299, 100, 1, 3), 0), api.ErrRange},
		{flat(frame(-far, 0, 10000, 201, 5), 0), api.ErrRange},
		{frame(far, 0, 100, 3, 2), api.ErrRange}, // before ErrShape
		{frame(0, 0, 100, 3, 2), api.ErrShape},
		{with(frame(0, 0, 100, 1, 1), 0, 0), api.ErrShape},
		{with(frame(0, 0, 100, 2, 2), 1, 2, 3), api.ErrShape},
		{with(frame(0, 0, 100, 2, 2), 1, 2, 3, 4, 5), api.ErrShape},
		{with(frame(0, 0, 100, 2, 2), 1, 2, u+1), api.ErrShape}, // before the last ErrRange
		{with(frame(0, 0, 100, 2, 2), 1, 2, 3, highest+1), api.ErrRange},
		{with(frame(0, 0, 100, 2, 2), -highest-1, 2, 3, 4), api.ErrRange},
		{with(frame(0, 0, 100, 2, 2), 1, u+1, 3, 4), api.ErrRange},
		{with(frame(0, 0, 100, 2, 2), 1, u-1, 3, 4), api.ErrRange},
		{with(frame(0, 0, 100, 2, 2), 1, 2, -u, 4), api.ErrRange},
		{with(frame(0, 0, 100, 1, 1), math.MaxInt), api.ErrRange},
		{with(frame(0, 0, 100, 1, 1), math.MinInt), api.ErrRange},
	} {
		same(t, bed.Check(c.g), c.want, "Check", frameOf(c.g), len(c.g.Levels))
	}
}

// faulty is a grid with each of the errors.
func faulty() map[api.Errno]api.Grid {
	return map[api.Errno]api.Grid{
		api.ErrRange: flat(frame(0, 0, 99, 1, 1), 0),
		api.ErrLarge: frame(0, 0, 100, 33, 32),
		api.ErrShape: frame(0, 0, 100, 1, 1),
	}
}

// Whatever else is wrong, the error of the grid comes first, that of the first one of two before that of the second one.
func TestP41AllFunctions(t *testing.T) {
	for want, g := range faulty() {
		allRefused(t, gridCalls(g), want, g)
		for _, other := range faulty() {
			allRefused(t, twoCalls(g, other), want, g, other)
		}
	}
	for _, g := range []api.Grid{
		frame(far(), 0, 100, 1, 1), frame(0, -far(), 100, 1, 1), frame(0, 0, far(), far(), far()), frame(-far(), -far(), -far(), -far(), -far()),
		flat(frame(farthest, 0, 100, 1, 1), 0), with(frame(0, 0, 100, 1, 1), highest+1), with(frame(0, 0, 100, 1, 2), 0, -highest-1),
	} {
		allRefused(t, gridCalls(g), api.ErrRange, g)
	}
}

// far is a number of which sums and products overflow.
func far() int { return math.MaxInt }

// Two grids have to have the same cells, with any levels.
func TestP41SameCells(t *testing.T) {
	g := flat(frame(0, 0, 100, 2, 3), 5)
	for _, other := range []api.Grid{
		flat(frame(1, 0, 100, 2, 3), 5), flat(frame(0, -1, 100, 2, 3), 5), flat(frame(0, 0, 101, 2, 3), 5),
		flat(frame(0, 0, 100, 3, 2), 5), flat(frame(0, 0, 100, 2, 2), 5), flat(frame(0, 0, 100, 1, 3), 5), flat(frame(0, 0, 100, 6, 1), 5),
	} {
		allRefused(t, twoCalls(g, other), api.ErrShape, other) // before the errors of the levels of Slices
		allRefused(t, twoCalls(other, g), api.ErrShape, other)
	}
	for _, other := range []api.Grid{g, flat(g, 7), flat(g, u), with(g, u, 1, 2, u, 4, 5)} {
		for name, got := range twoCalls(g, other) {
			if name != "Slices" {
				same(t, got.e, api.OK, name, other)
			}
		}
	}
}

func TestP41Blank(t *testing.T) {
	for _, g := range []api.Grid{example(), later(), flat(frame(-7, 9, 101, 4, 1), u), flat(frame(-farthest, -farthest, 10000, 32, 32), 0)} {
		got, e := bed.Blank(g)
		same(t, e, api.OK, "Blank", g)
		sameGrid(t, got, with(g, slices.Repeat([]int{u}, g.Cols*g.Rows)...), "Blank", g)
	}
	same(t, of(bed.Blank(frame(0, 0, 100, 2, 2))), refused(api.ErrShape), "Blank of a grid that is not valid")
}
