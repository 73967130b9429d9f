package geometry_test

import (
	"math/big"
	"testing"

	"draghead/api"
	"draghead/geometry"
)

func TestP13InCircle(t *testing.T) {
	const m, p = api.MaxPlace, api.MaxPatch
	for _, c := range []struct {
		l    []api.Point
		want int
	}{
		{points(0, 0, 2, 0, 0, 2, 2, 2), 0},
		{points(0, 0, 2, 0, 0, 2, 1, 1), 1},
		{points(0, 0, 2, 0, 0, 2, 3, 3), -1},
		{points(0, 0, 0, 2, 2, 0, 2, 2), 0},
		{points(0, 0, 0, 2, 2, 0, 1, 1), 1},
		{points(0, 0, 0, 2, 2, 0, 3, 3), -1},
		{points(0, 0, 0, 2, 2, 0, 0, 2), 0},
		{points(5, 0, 3, 4, -4, 3, 0, -5), 0},
		{points(5, 0, 3, 4, -4, 3, 1, -5), -1},
		{points(5, 0, 3, 4, -4, 3, 0, -4), 1},
		{points(m-p, m-p, m, m-p, m, m, m-p, m), 0},
		{points(0, 0, p, 0, p, p, 1, p), 1},
		{points(0, p, p, 0, p, p, 0, 0), 0},
		{points(0, 1, p, 0, p, p, 0, 0), -1},
	} {
		n, e := geometry.InCircle(c.l[0], c.l[1], c.l[2], c.l[3])
		same(t, n, c.want, "InCircle", c.l)
		same(t, e, api.OK, "InCircle", c.l)
	}
}

func TestP13Errors(t *testing.T) {
	const p = api.MaxPatch
	for _, c := range []struct {
		l    []api.Point
		want api.Errno
	}{
		{points(0, 0, p+1, 0, 0, 5, 1, 1), api.ErrLarge},
		{points(0, 0, 5, 0, 0, 5, 1, -p-1), api.ErrLarge},
		{points(0, 0, 5, 0, 0, 5, p+1, 1), api.ErrLarge},
		{points(0, 0, 5, p+1, 0, 5, 1, 1), api.ErrLarge},
		{points(0, 0, -1, 0, p, 5, 1, 1), api.ErrLarge},
		{points(0, 0, 1, -p, 1, 5, 2, 1), api.ErrLarge},
		{points(0, 0, 1, 1, 2, 2, p+1, 1), api.ErrLarge},
		{points(0, 0, 1, 1, 2, 2, 0, 1), api.ErrShape},
		{points(0, 0, 0, 0, 2, 2, 0, 1), api.ErrShape},
		{points(3, 3, 3, 3, 3, 3, 3, 3), api.ErrShape},
	} {
		n, e := geometry.InCircle(c.l[0], c.l[1], c.l[2], c.l[3])
		same(t, n, 0, "InCircle", c.l)
		same(t, e, c.want, "InCircle", c.l)
	}
	for _, p := range outside() {
		for i := range 4 {
			l := points(0, 0, 1, 0, 0, 1, 1, 1)
			l[i] = p
			n, e := geometry.InCircle(l[0], l[1], l[2], l[3])
			same(t, n, 0, "InCircle", l)
			same(t, e, api.ErrRange, "InCircle", l)
		}
	}
}

// byCentre is the circle test by the centre of the circle, with fractions of any length.
func byCentre(l [4]api.Point) int {
	rat := func(n int) *big.Rat { return new(big.Rat).SetInt64(int64(n)) }
	mul := func(a, b *big.Rat) *big.Rat { return new(big.Rat).Mul(a, b) }
	sub := func(a, b *big.Rat) *big.Rat { return new(big.Rat).Sub(a, b) }
	add := func(a, b *big.Rat) *big.Rat { return new(big.Rat).Add(a, b) }
	from := func(i int) (x, y, square *big.Rat) { // as seen from the first point
		x, y = rat(l[i].X-l[0].X), rat(l[i].Y-l[0].Y)
		return x, y, add(mul(x, x), mul(y, y))
	}
	bx, by, bb := from(1)
	cx, cy, cc := from(2)
	px, py, pp := from(3)
	double := sub(mul(bx, cy), mul(by, cx)) // the centre is (x, y) / (2 double)
	x := new(big.Rat).Quo(sub(mul(cy, bb), mul(by, cc)), double)
	y := new(big.Rat).Quo(sub(mul(bx, cc), mul(cx, bb)), double)
	return sub(add(mul(px, x), mul(py, y)), pp).Sign()
}

func TestP13AgainstLongNumbers(t *testing.T) {
	s := numbers{13}
	for _, most := range []int{2, 5, 100, api.MaxPatch / 2} {
		for range 5000 {
			l := [4]api.Point{s.point(most), s.point(most), s.point(most), s.point(most)}
			n, e := geometry.InCircle(l[0], l[1], l[2], l[3])
			if geometry.Orient(l[0], l[1], l[2]) == 0 {
				same(t, e, api.ErrShape, "InCircle", l)
				continue
			}
			same(t, n, byCentre(l), "InCircle", l)
		}
	}
}

// The places that make the determinant as great as it can be.
func TestP13GreatestDeterminants(t *testing.T) {
	corner := func(n int) api.Point {
		return at((n%3)*api.MaxPatch/2-api.MaxPlace, (n/3)*api.MaxPatch/2-api.MaxPlace)
	}
	for n := range 9 * 9 * 9 * 9 {
		l := [4]api.Point{corner(n % 9), corner(n / 9 % 9), corner(n / 81 % 9), corner(n / 729)}
		if geometry.Orient(l[0], l[1], l[2]) == 0 {
			continue
		}
		got, _ := geometry.InCircle(l[0], l[1], l[2], l[3])
		same(t, got, byCentre(l), "InCircle", l)
	}
}
