package trip

import (
	"cmp"

	"draghead/api"
)

// Deepest returns the greatest draught with which there is a trip (P8.6).
func Deepest(f api.Fairway, p api.Passage) (int, api.Errno) {
	p.Draught = 0 // that of the passage is not looked at
	if e := checkPassage(f, p); e != api.OK {
		return 0, e
	}
	draught, is := greatest(0, api.MaxDraught, func(n int) bool {
		p.Draught = n
		_, is := wayOf(f, p).earliest(p.From)
		return is
	})
	if !is {
		return 0, api.ErrNone
	}
	return draught, api.OK
}

// Heaviest returns the greatest load of a hopper with which there is a trip.
func Heaviest(f api.Fairway, p api.Passage, h api.Hopper) (int, api.Errno) {
	p.Draught = 0
	if e := cmp.Or(checkPassage(f, p), CheckHopper(h)); e != api.OK {
		return 0, e
	}
	draught, e := Deepest(f, p)
	if e != api.OK {
		return 0, e
	}
	return MassAt(h, draught)
}
