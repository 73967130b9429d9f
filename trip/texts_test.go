package trip_test

import (
	"math"
	"strings"
	"testing"

	"draghead/api"
	"draghead/trip"
)

func TestP89Texts(t *testing.T) {
	for _, x := range []struct {
		trip api.Trip
		text string
	}{
		{with("t", sailing(75, 60, 70)), "t 60 70 > 75"},
		{sailing(0, 0), "s 0 > 0"},
		{sailing(5, 9, 3), "s 9 3 > 5"}, // their order does not matter
		{with("A-1234567890", sailing(latest, latest)), "A-1234567890 1000000 > 1000000"},
		{sailing(8, 0, 1, 2, 3, 4, 5, 6, 7), "s 0 1 2 3 4 5 6 7 > 8"},
	} {
		text, e := trip.PrintTrip(x.trip)
		same(t, e, api.OK, "PrintTrip", x)
		same(t, text, x.text, "PrintTrip", x)
		got, e := trip.ParseTrip(x.text)
		same(t, e, api.OK, "ParseTrip", x)
		sameTrip(t, got, x.trip, "ParseTrip", x)
	}
}

func TestP89PrintErrors(t *testing.T) {
	for k, x := range []struct {
		want api.Errno
		trip api.Trip
	}{
		{api.ErrName, api.Trip{}},
		{api.ErrName, with("A-12345678901", sailing(1, 0))},
		{api.ErrName, with("a b", sailing(1, 0))},
		{api.ErrName, with("1", sailing(-1))}, // before ErrShape
		{api.ErrName, with("s>", sailing(-1, make([]int, 9)...))},
		{api.ErrShape, sailing(0)},
		{api.ErrShape, sailing(-1)}, // before ErrRange
		{api.ErrShape, sailing(0, []int{}...)},
		{api.ErrLarge, sailing(0, make([]int, 9)...)},
		{api.ErrLarge, sailing(-1, make([]int, 9)...)}, // before ErrRange
		{api.ErrRange, sailing(-1, 0)},
		{api.ErrRange, sailing(latest+1, 0)},
		{api.ErrRange, sailing(0, -1)},
		{api.ErrRange, sailing(0, 0, latest+1)},
		{api.ErrRange, sailing(math.MinInt, math.MaxInt)},
	} {
		same(t, of(trip.PrintTrip(x.trip)), refused(x.want), "PrintTrip", k)
	}
}

func TestP89ParseErrors(t *testing.T) {
	for _, s := range []string{
		"", " ", "s", "s ", "s 1", "s > 2", "s  > 2", "s 1 >", "s 1 > ", "s 1 >2", "s 1> 2", "s 1 2", "> 2", " > 2", "s 1  > 2", "s 1 >  2", "s  1 > 2", " s 1 > 2",
		"s 1 > 2 ", "s 1 > 2\n", "s 1 > 2 3", "s 1 > 2 > 3", "s 1 2 > > 3", "s > 1 > 2", "s\t1 > 2", "s 1,2 > 3", "S 1 > 2 S",
		"s 01 > 2", "s 1 > 02", "s +1 > 2", "s -1 > 2", "s -0 > 2", "s 1 > -0", "s 1 > +2", "s 1 > -2", "s 0x1 > 2", "s 1_0 > 2", "s 1.0 > 2", "s one > 2", "s \u0661 > 2",
		"s 1000001 > 2", "s 1 > 1000001", "s 99999999999999999999 > 2", "s 1 > 99999999999999999999", "s 1 > 18446744073709551618",
		"1 1 > 2", "- 1 > 2", "a_b 1 > 2", "a\u00e9 1 > 2", "A-12345678901 1 > 2", "1 > 2",
		"s 0 1 2 3 4 5 6 7 8 > 9", "s 0 1 2 3 4 5 6 7 8 9 > 9", "s" + strings.Repeat(" 1", 100000) + " > 2", "s" + strings.Repeat(" ", 100000), strings.Repeat(" > ", 100000), "s 1 > 2\x00",
	} {
		same(t, of(trip.ParseTrip(s)), refused(api.ErrSyntax), "ParseTrip", s[:min(len(s), 40)])
	}
}

// Whatever is read is written back as it was, and what differs from a text by one byte is another trip or none.
func TestP89BackAndForth(t *testing.T) {
	s := &numbers{89}
	read := 0
	for range 2000 {
		x := api.Trip{Ship: letter(s.next(26)) + "-1", Out: s.next(latest + 1)}
		for range 1 + s.next(8) {
			x.Enter = append(x.Enter, s.next(1+s.next(latest+1)))
		}
		text, e := trip.PrintTrip(x)
		same(t, e, api.OK, "PrintTrip", x)
		got, e := trip.ParseTrip(text)
		same(t, e, api.OK, "ParseTrip", text)
		sameTrip(t, got, x, "ParseTrip", text)
		other := []byte(text)
		other[s.next(len(other))] = "0 1>-+a\n"[s.next(8)]
		if got, e := trip.ParseTrip(string(other)); e == api.OK {
			again, _ := trip.PrintTrip(got)
			same(t, again, string(other), "PrintTrip", got)
			read++
		} else {
			same(t, of(got, e), refused(api.ErrSyntax), "ParseTrip", string(other))
		}
	}
	same(t, read > 100 && read < 1900, true, "texts are read", read)
}
