package sounding

import (
	"iter"
	"strconv"
	"strings"

	"draghead/api"
)

// The numbers in the texts of a raw sounding and of a sounding.
const (
	rawFields      = 7
	soundingFields = 5
)

const rawHead = "raw "

// FormatRaw returns the text of a raw sounding (P3.7).
func FormatRaw(r api.Raw) (string, api.Errno) {
	if !isRaw(r) {
		return "", api.ErrRange
	}
	return rawHead + join(r.Number, r.Minute, r.X, r.Y, r.Depth, r.Draught, r.Error), api.OK
}

// ParseRaw returns the raw sounding whose text it is.
func ParseRaw(s string) (api.Raw, api.Errno) {
	fields, isText := strings.CutPrefix(s, rawHead)
	v, ok := numbers(fields, rawFields)
	if !isText || !ok {
		return api.Raw{}, api.ErrSyntax
	}
	r := api.Raw{Number: v[0], Minute: v[1], X: v[2], Y: v[3], Depth: v[4], Draught: v[5], Error: v[6]}
	if !isRaw(r) {
		return api.Raw{}, api.ErrSyntax
	}
	return r, api.OK
}

// Sheet returns the text of a sheet.
func Sheet(l []api.Sounding) (string, api.Errno) {
	if e := Check(l); e != api.OK {
		return "", e
	}
	var out strings.Builder
	for _, s := range l {
		out.WriteString(join(s.Number, s.X, s.Y, s.Lo, s.Hi) + "\n")
	}
	return out.String(), api.OK
}

// ParseSheet returns the sheet whose text it is, or the line that is wrong and the error.
func ParseSheet(s string) ([]api.Sounding, int, api.Errno) {
	if len(s) > api.MaxText {
		return nil, 0, api.ErrLarge
	}
	var out []api.Sounding
	for line, isEnded := range lines(s) {
		x, ok := readSounding(line)
		if !ok || !isEnded {
			return nil, len(out) + 1, api.ErrSyntax
		}
		out = append(out, x)
	}
	if e := Check(out); e != api.OK {
		return nil, 0, e
	}
	return out, 0, api.OK
}

// lines yields the lines of a text, and whether they have a line feed at their end.
func lines(text string) iter.Seq2[string, bool] {
	return func(yield func(string, bool) bool) {
		for rest := text; rest != ""; {
			line, behind, isEnded := strings.Cut(rest, "\n")
			if !yield(line, isEnded) {
				return
			}
			rest = behind
		}
	}
}

// readSounding reads the line of a valid sounding.
func readSounding(line string) (api.Sounding, bool) {
	v, ok := numbers(line, soundingFields)
	if !ok {
		return api.Sounding{}, false
	}
	s := api.Sounding{Number: v[0], X: v[1], Y: v[2], Lo: v[3], Hi: v[4]}
	return s, isSounding(s)
}

// numbers reads n numbers with single blanks between them.
func numbers(s string, n int) ([]int, bool) {
	// One part more than wanted is enough to tell that there are too many, however long the text.
	words := strings.SplitN(s, " ", n+1)
	if len(words) != n {
		return nil, false
	}
	var out []int
	for _, word := range words {
		v, err := strconv.Atoi(word)
		// A text that is not written back as it was has leading zeros, a plus sign or "-0".
		if err != nil || strconv.Itoa(v) != word {
			return nil, false
		}
		out = append(out, v)
	}
	return out, true
}

// join writes numbers with single blanks between them.
func join(l ...int) string {
	var words []string
	for _, n := range l {
		words = append(words, strconv.Itoa(n))
	}
	return strings.Join(words, " ")
}
