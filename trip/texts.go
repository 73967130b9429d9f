package trip

import (
	"strconv"
	"strings"

	"draghead/api"
)

// PrintTrip returns the text of a trip (P8.9).
func PrintTrip(t api.Trip) (string, api.Errno) {
	switch {
	case !isName(t.Ship):
		return "", api.ErrName
	case len(t.Enter) == 0:
		return "", api.ErrShape
	case len(t.Enter) > api.MaxReaches:
		return "", api.ErrLarge
	}
	if e := checkMinutes(t); e != api.OK {
		return "", e
	}
	out := t.Ship
	for _, minute := range t.Enter {
		out += " " + strconv.Itoa(minute)
	}
	return out + " > " + strconv.Itoa(t.Out), api.OK
}

// ParseTrip returns the trip whose text it is.
func ParseTrip(s string) (api.Trip, api.Errno) {
	t := read(s)
	// The text of what was read is another one wherever s has not the form of a text.
	if text, e := PrintTrip(t); e != api.OK || text != s {
		return api.Trip{}, api.ErrSyntax
	}
	return t, api.OK
}

// read returns the trip that a text seems to have.
func read(s string) api.Trip {
	head, last, _ := strings.Cut(s, " > ")
	// One word more than a trip can have is enough to see that there are too many.
	words := strings.SplitN(head, " ", api.MaxReaches+2)
	t := api.Trip{Ship: words[0], Out: number(last)}
	for _, word := range words[1:] {
		t.Enter = append(t.Enter, number(word))
	}
	return t
}

// number reads a number; of what is none it makes any other one.
func number(s string) int {
	n, _ := strconv.Atoi(s)
	return n
}
