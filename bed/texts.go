package bed

import (
	"strconv"
	"strings"

	"draghead/api"
)

const (
	head        = "grid"
	unknownWord = "-"
	frameWords  = 5 // the numbers in the first line
	mostText    = 20000
)

// Print returns the text of a grid (P4.8).
func Print(g api.Grid) (string, api.Errno) {
	if e := Check(g); e != api.OK {
		return "", e
	}
	first := []string{head}
	for _, n := range [frameWords]int{g.X, g.Y, g.Side, g.Cols, g.Rows} {
		first = append(first, strconv.Itoa(n))
	}
	var out strings.Builder
	writeLine(&out, first)
	for row := range g.Rows {
		var words []string
		for _, level := range g.Levels[row*g.Cols : (row+1)*g.Cols] {
			words = append(words, wordOf(level))
		}
		writeLine(&out, words)
	}
	return out.String(), api.OK
}

// Parse returns the grid whose text it is.
func Parse(s string) (api.Grid, api.Errno) {
	if len(s) > mostText {
		return api.Grid{}, api.ErrLarge
	}
	g, ok := readWords(strings.Fields(s))
	if !ok {
		return api.Grid{}, api.ErrSyntax
	}
	// The words do not tell lines, blanks or leading zeros: a text is right if it is what is written of its grid.
	if text, e := Print(g); e != api.OK || text != s {
		return api.Grid{}, api.ErrSyntax
	}
	return g, api.OK
}

func writeLine(out *strings.Builder, words []string) {
	out.WriteString(strings.Join(words, " ") + "\n")
}

func wordOf(level int) string {
	if level == api.Unknown {
		return unknownWord
	}
	return strconv.Itoa(level)
}

// readWords returns the grid that the words of a text tell, valid or not; false if they tell none.
func readWords(words []string) (api.Grid, bool) {
	if len(words) < 1+frameWords {
		return api.Grid{}, false
	}
	var v [frameWords]int
	for k := range v {
		n, err := strconv.Atoi(words[1+k])
		if err != nil {
			return api.Grid{}, false
		}
		v[k] = n
	}
	g := api.Grid{X: v[0], Y: v[1], Side: v[2], Cols: v[3], Rows: v[4]}
	for _, word := range words[1+frameWords:] {
		level, ok := readLevel(word)
		if !ok {
			return api.Grid{}, false
		}
		g.Levels = append(g.Levels, level)
	}
	return g, true
}

func readLevel(word string) (int, bool) {
	if word == unknownWord {
		return api.Unknown, true
	}
	level, err := strconv.Atoi(word)
	return level, err == nil
}
