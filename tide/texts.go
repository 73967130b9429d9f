package tide

import (
	"strconv"
	"strings"

	"draghead/api"
)

const (
	mostBytes = 20000
	mostSize  = 9999999 // the greatest number with 7 digits
)

// Print returns the text of a gauge (P2.7).
func Print(g api.Gauge) (string, api.Errno) {
	if e := CheckGauge(g); e != api.OK {
		return "", e
	}
	var out strings.Builder
	out.WriteString("gauge " + g.Name + " " + numbers(g.X, g.Error) + "\n")
	for _, m := range g.Marks {
		out.WriteString(numbers(m.Minute, m.Level) + "\n")
	}
	return out.String(), api.OK
}

// Parse returns the gauge whose text it is, or the line that is wrong and the error.
func Parse(text string) (api.Gauge, int, api.Errno) {
	if len(text) > mostBytes {
		return api.Gauge{}, 0, api.ErrLarge
	}
	g, wrong := read(text)
	if wrong > 0 {
		return api.Gauge{}, wrong, api.ErrSyntax
	}
	if e := CheckGauge(g); e != api.OK {
		return api.Gauge{}, 0, e
	}
	return g, 0, api.OK
}

// read returns a gauge, which may have errors, and the number of the first line that has not the required form, or 0.
func read(text string) (api.Gauge, int) {
	line, rest, ended := strings.Cut(text, "\n")
	g, ok := readHead(line)
	if !ended || !ok {
		return api.Gauge{}, 1
	}
	for place := 2; rest != ""; place++ {
		line, rest, ended = strings.Cut(rest, "\n")
		m, ok := readMark(line)
		if !ended || !ok {
			return api.Gauge{}, place
		}
		g.Marks = append(g.Marks, m)
	}
	return g, 0
}

func readHead(line string) (api.Gauge, bool) {
	words := strings.Split(line, " ")
	if len(words) != 4 || words[0] != "gauge" || words[1] == "" {
		return api.Gauge{}, false
	}
	x, okX := number(words[2])
	off, okOff := number(words[3])
	return api.Gauge{Name: words[1], X: x, Error: off}, okX && okOff
}

func readMark(line string) (api.Mark, bool) {
	first, second, _ := strings.Cut(line, " ")
	minute, okMinute := number(first)
	level, okLevel := number(second)
	return api.Mark{Minute: minute, Level: level}, okMinute && okLevel
}

// number reads a number with at most 7 digits. A text that is not written back as it was has leading zeros, a plus sign or "-0".
func number(s string) (int, bool) {
	n, err := strconv.Atoi(s)
	return n, err == nil && within(n, -mostSize, mostSize) && strconv.Itoa(n) == s
}

// numbers writes two numbers with a blank between them.
func numbers(a, b int) string {
	return strconv.Itoa(a) + " " + strconv.Itoa(b)
}
