package soil

import "draghead/api"

const (
	mostVolume = 1000000000000000 // cubic centimetres
	cubicMetre = 1000000          // cubic centimetres
)

// Bulked returns the dredged volume of a volume in place, and what remains of the division (P6.7).
func Bulked(s api.Soil, volume, rest int) (int, int, api.Errno) {
	return amount(s, volume, rest, s.Bulk)
}

// Mass returns the kilograms of a volume in place, and what remains of the division.
func Mass(s api.Soil, volume, rest int) (int, int, api.Errno) {
	return amount(s, volume, rest, api.Frac{Num: s.Density, Den: cubicMetre})
}

// amount returns so much for each unit of a volume, and what remains.
func amount(s api.Soil, volume, rest int, by api.Frac) (int, int, api.Errno) {
	if e := CheckSoils([]api.Soil{s}); e != api.OK {
		return 0, 0, e
	}
	if !within(volume, 0, mostVolume) || !within(rest, 0, by.Den-1) {
		return 0, 0, api.ErrRange
	}
	all := volume*by.Num + rest
	return all / by.Den, all % by.Den, api.OK
}
