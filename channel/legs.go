package channel

import (
	"draghead/api"
	"draghead/geometry"
)

// none stands for no design level. It is higher than every level, so that the least one of several is right with it, too.
const none = api.Unknown

// leg leads from an axis point to the next one; start is the sum of the spans of the legs before it.
type leg struct {
	from, to    api.AxisPoint
	start, span int
}

// profile is the channel across its axis: half the width of the bottom, its level, and the run of the sides.
type profile struct{ half, bottom, run int }

// hold is a place as a leg or bend holds it.
type hold struct {
	chainage, offset int
	across           profile
}

// legs returns the legs of a channel without errors.
func legs(c api.Channel) []leg {
	var out []leg
	for i, to := range c.Axis[1:] {
		from := c.Axis[i]
		span := geometry.Span(place(from), place(to))
		out = append(out, leg{from: from, to: to, start: length(out), span: span})
	}
	return out
}

// length returns the sum of the spans of the first legs of a channel.
func length(l []leg) int {
	if len(l) == 0 {
		return 0
	}
	last := l[len(l)-1]
	return last.start + last.span
}

func place(a api.AxisPoint) api.Point {
	return api.Point{X: a.X, Y: a.Y}
}

// square returns the squared distance of the ends of a leg.
func (l leg) square() int {
	return geometry.Square(place(l.from), place(l.to))
}

// along returns how far a place is along a leg, times the length of the leg: from 0 at its beginning to its square at its end.
func (l leg) along(p api.Point) int {
	return (l.to.X-l.from.X)*(p.X-l.from.X) + (l.to.Y-l.from.Y)*(p.Y-l.from.Y)
}

// profileAt returns the profile of a leg at a part of its whole.
func (l leg) profileAt(part, whole int) profile {
	between := func(from, to int) int { return divideDown(from*(whole-part)+to*part, whole) }
	return profile{half: between(l.from.Half, l.to.Half), bottom: between(l.from.Level, l.to.Level), run: l.from.Run}
}

// hold returns a place as the leg holds it; false if it does not.
func (l leg) hold(p api.Point) (hold, bool) {
	part, whole := l.along(p), l.square()
	if !within(part, 0, whole) {
		return hold{}, false
	}
	from, to := place(l.from), place(l.to)
	// All three places are in range, and the ends of a leg differ: there is no error.
	along, _ := geometry.Along(from, to, p)
	offset, _ := geometry.Offset(from, to, p)
	return hold{chainage: l.start + along, offset: offset, across: l.profileAt(part, whole)}, true
}

// holdInBend returns a place as the bend between two legs holds it; false if it does not.
func holdInBend(before, after leg, p api.Point) (hold, bool) {
	if before.along(p) <= before.square() || after.along(p) >= 0 {
		return hold{}, false
	}
	q := after.from
	return hold{
		chainage: after.start,
		offset:   geometry.Span(place(q), p),
		across:   profile{half: q.Half, bottom: q.Level, run: q.Run},
	}, true
}

// holds returns a place that is in range as each of the legs, and then each of the bends between them, holds it.
func holds(l []leg, p api.Point) []hold {
	var out []hold
	for _, x := range l {
		if h, is := x.hold(p); is {
			out = append(out, h)
		}
	}
	for i, after := range l[1:] {
		if h, is := holdInBend(l[i], after, p); is {
			out = append(out, h)
		}
	}
	return out
}

// levelAt returns the design level at an offset.
func (x profile) levelAt(offset int) int {
	if x.isBottom(offset) {
		return x.bottom
	}
	if x.run == 0 {
		return none
	}
	if level := x.bottom + (offset-x.half)/x.run; level <= api.MaxLevel {
		return level
	}
	return none
}

// isBottom reports whether an offset is on the bottom.
func (x profile) isBottom(offset int) bool {
	return offset <= x.half
}

// designAt returns the design level of a channel at a place.
func designAt(l []leg, p api.Point) int {
	out := none
	for _, h := range holds(l, p) {
		out = min(out, h.across.levelAt(h.offset))
	}
	return out
}

// isOnBottom reports whether a leg or bend holds a place on the bottom.
func isOnBottom(l []leg, p api.Point) bool {
	for _, h := range holds(l, p) {
		if h.across.isBottom(h.offset) {
			return true
		}
	}
	return false
}

// divideDown divides by a positive number; the division of the language rounds towards 0.
func divideDown(n, by int) int {
	q := n / by
	if n%by < 0 {
		q--
	}
	return q
}
