package channel

import (
	"slices"

	"draghead/api"
)

const mostExtra = 100000 // centimetres

// Box returns the channel with vertical sides and a bottom that is wider by extra on each side (P5.4).
func Box(c api.Channel, extra int) (api.Channel, api.Errno) {
	if e := checkVariant(c, extra, 0, mostExtra); e != api.OK {
		return api.Channel{}, e
	}
	return checked(withAxis(c, func(a api.AxisPoint) api.AxisPoint {
		a.Half += extra
		a.Run = 0
		return a
	}))
}

// Deepen returns the channel with every level less by a number.
func Deepen(c api.Channel, by int) (api.Channel, api.Errno) {
	if e := checkVariant(c, by, -api.MaxLevel, api.MaxLevel); e != api.OK {
		return api.Channel{}, e
	}
	return checked(withAxis(c, func(a api.AxisPoint) api.AxisPoint {
		a.Level -= by
		return a
	}))
}

// checkVariant returns what is wrong with a channel, or with the number by which it is to be changed.
func checkVariant(c api.Channel, by, least, most int) api.Errno {
	if e := Check(c); e != api.OK {
		return e
	}
	if !within(by, least, most) {
		return api.ErrRange
	}
	return api.OK
}

// checked returns a channel, or what is wrong with it.
func checked(c api.Channel) (api.Channel, api.Errno) {
	if e := Check(c); e != api.OK {
		return api.Channel{}, e
	}
	return c, api.OK
}

// withAxis returns a channel with changed axis points that shares no memory with the given one.
func withAxis(c api.Channel, change func(a api.AxisPoint) api.AxisPoint) api.Channel {
	axis, regions := c.Axis, c.Regions
	c.Axis, c.Regions = nil, nil
	for _, a := range axis {
		c.Axis = append(c.Axis, change(a))
	}
	for _, r := range regions {
		r.Corners = slices.Clone(r.Corners)
		c.Regions = append(c.Regions, r)
	}
	return c
}
