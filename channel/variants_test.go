package channel_test

import (
	"math"
	"testing"

	"draghead/api"
	"draghead/channel"
)

// several is a bent channel with regions, an allowance and a buffer.
func several() api.Channel {
	c := having(bent(), block("A", 0, 0, 0, 900, 900), region("B", 2, 0, 0, 5, 0, 0, -5))
	c.Over, c.Buffer = 20, 70
	return c
}

func TestP54Box(t *testing.T) {
	for _, extra := range []int{0, 1, 50, 99500} {
		got, e := channel.Box(several(), extra)
		same(t, e, api.OK, "Box", extra)
		want := several()
		want.Axis = []api.AxisPoint{axis(0, 0, 300+extra, -800, 0), axis(4000, 0, 500+extra, -1000, 0), axis(4000, 3000, 500+extra, -1000, 0)}
		sameChannel(t, got, want, "Box", extra)
	}
	for _, extra := range []int{-1, 100001, 99501, 100000, math.MinInt, math.MaxInt} {
		same(t, of(channel.Box(several(), extra)), refused(api.ErrRange), "Box", extra) // that of the result, too
	}
	got, e := channel.Box(straight(axis(0, 0, 1, 0, 1000), axis(1, 0, 100000, 0, 0)), 0)
	same(t, e, api.OK, "Box")
	sameList(t, got.Axis, []api.AxisPoint{axis(0, 0, 1, 0, 0), axis(1, 0, 100000, 0, 0)}, "Box")
}

func TestP54Deepen(t *testing.T) {
	for _, by := range []int{0, 1, 200, -1, -20000, 18980} {
		got, e := channel.Deepen(several(), by)
		same(t, e, api.OK, "Deepen", by)
		want := several()
		for i := range want.Axis {
			want.Axis[i].Level -= by
		}
		sameChannel(t, got, want, "Deepen", by)
	}
	for _, by := range []int{18981, 20000, 20001, -20001, math.MinInt, math.MaxInt} {
		same(t, of(channel.Deepen(several(), by)), refused(api.ErrRange), "Deepen", by)
	}
	low := straight(axis(0, 0, 1, -highest+30, 0), axis(1, 0, 1, 0, 0))
	same(t, of(channel.Deepen(low, 1)), refused(api.ErrRange), "Deepen: below the allowance")
	got, e := channel.Deepen(low, -highest)
	same(t, e, api.OK, "Deepen upwards")
	sameList(t, got.Axis, []api.AxisPoint{axis(0, 0, 1, 30, 0), axis(1, 0, 1, highest, 0)}, "Deepen upwards")
	same(t, of(channel.Deepen(straight(axis(0, 0, 1, 5, 0), axis(1, 0, 1, 1, 0)), -highest+4)), refused(api.ErrRange), "Deepen: too high")
	got, e = channel.Deepen(straight(axis(0, 0, 1, highest, 0), axis(1, 0, 1, highest, 0)), highest)
	same(t, e, api.OK, "Deepen by the most")
	sameList(t, got.Axis, []api.AxisPoint{axis(0, 0, 1, 0, 0), axis(1, 0, 1, 0, 0)}, "Deepen by the most")
}
