package bed_test

import (
	"regexp"
	"slices"
	"strings"
	"testing"

	"draghead/api"
	"draghead/bed"
)

func TestP48Texts(t *testing.T) {
	for _, c := range []struct {
		g    api.Grid
		text string
	}{
		{example(), "grid 0 0 100 3 2\n-500 -300 -400\n-600 - -450\n"},
		{flat(frame(0, 0, 100, 1, 1), 0), "grid 0 0 100 1 1\n0\n"},
		{flat(frame(0, 0, 100, 1, 1), u), "grid 0 0 100 1 1\n-\n"},
		{with(frame(-5, 7, 10000, 1, 3), 10, u, -highest), "grid -5 7 10000 1 3\n10\n-\n-20000\n"},
		{with(frame(-farthest, farthest-100, 100, 3, 1), highest, u, -1), "grid -1000000 999900 100 3 1\n20000 - -1\n"},
		{flat(frame(0, 0, 100, 1024, 1), u), "grid 0 0 100 1024 1\n" + strings.Repeat("- ", 1023) + "-\n"},
		{flat(frame(0, 0, 100, 1, 1024), -7), "grid 0 0 100 1 1024\n" + strings.Repeat("-7\n", 1024)},
		{flat(frame(-farthest, -farthest, 10000, 32, 32), -highest), "grid -1000000 -1000000 10000 32 32\n" + strings.Repeat(strings.Repeat("-20000 ", 31)+"-20000\n", 32)},
	} {
		text, e := bed.Print(c.g)
		same(t, e, api.OK, "Print", c)
		same(t, text, c.text, "Print", c)
		g, e := bed.Parse(c.text)
		same(t, e, api.OK, "Parse", c)
		sameGrid(t, g, c.g, "Parse", c)
	}
	for want, g := range faulty() {
		same(t, of(bed.Print(g)), refused(want), "Print", g)
	}
}

func TestP48ParseErrors(t *testing.T) {
	for _, text := range []string{
		"", "\n", " ", "grid", "grid\n", "grid 0 0 100 1 1", "grid 0 0 100 1 1\n", "grid 0 0 100 1 1\n\n", "grid 0 0 100 1 1\n5", "grid 0 0 100 1 1\n5 \n", "grid 0 0 100 1 1\n 5\n",
		"grid 0 0 100 1 1 \n5\n", " grid 0 0 100 1 1\n5\n", "\ngrid 0 0 100 1 1\n5\n", "grid  0 0 100 1 1\n5\n", "grid 0 0 100 1  1\n5\n", "grid\t0 0 100 1 1\n5\n", "grid 0 0 100 1 1\n\n5\n",
		"grid 0 0 100 1 1\n5\n\n", "grid 0 0 100 1 1\r\n5\r\n", "grid 0 0 100 1 1\n5\r\n", "grid 0 0 100 1 1\n5\x00\n", "grid 0 0 100 1 1\n5\n\x00", "grid 0 0 100 1 1 5\n", "grid 0 0 100 1\n1\n5\n",
		"Grid 0 0 100 1 1\n5\n", "grids 0 0 100 1 1\n5\n", "gri 0 0 100 1 1\n5\n", "0 0 100 1 1\n5\n", "raster 0 0 100 1 1\n5\n", "grid0 0 100 1 1\n5\n", "grid grid 0 0 100 1 1\n5\n",
		"grid 0 0 100 1\n5\n", "grid 0 0 100 1 1 1\n5\n", "grid 0 0 100 1 1\n5\n5\n", "grid 0 0 100 1 1\n5 5\n", "grid 0 0 100 1 2\n5\n", "grid 0 0 100 2 1\n5\n", "grid 0 0 100 2 1\n5\n6\n",
		"grid 0 0 100 1 2\n5 6\n", "grid 0 0 100 2 2\n1 2 3\n4\n", "grid 0 0 100 2 2\n1 2\n3 4 5\n", "grid 0 0 100 2 2\n1 2\n3\n", "grid 0 0 100 2 2\n1 2 3 4\n",
		"grid 00 0 100 1 1\n5\n", "grid 0 -0 100 1 1\n5\n", "grid 0 0 0100 1 1\n5\n", "grid 0 0 +100 1 1\n5\n", "grid 0 0 100 01 1\n5\n", "grid 0 0 100 1 1\n05\n", "grid 0 0 100 1 1\n-0\n",
		"grid 0 0 100 1 1\n-05\n", "grid 0 0 100 1 1\n+5\n", "grid 0 0 100 1 1\n--5\n", "grid 0 0 100 1 1\n--\n", "grid 0 0 100 1 1\n5-\n", "grid 0 0 100 1 1\n- 5\n", "grid 0 0 100 1 1\nx\n",
		"grid 0 0 100 1 1\n0x5\n", "grid 0 0 100 1 1\n5_0\n", "grid 0 0 100 1 1\n5.0\n", "grid 0 0 100 1 1\n5e1\n", "grid 0 0 100 1 1\n\u0665\n", "grid 0 0 100 1 1\n\xff\n", "grid - 0 100 1 1\n5\n",
		"grid 0 0 - 1 1\n5\n", "grid x 0 100 1 1\n5\n", "grid 0 0 100 1 1\n\u22125\n", "grid 0 0 100 1 1\n5\u00a0\n", "grid 0 0 100 1 1\n5\v\n", "grid\u20030 0 100 1 1\n5\n",
		// Those of no valid grid.
		"grid 1000001 0 100 1 1\n5\n", "grid -1000001 0 100 1 1\n5\n", "grid 0 1000001 100 1 1\n5\n", "grid 0 -1000001 100 1 1\n5\n", "grid 999901 0 100 1 1\n5\n", "grid 0 999901 100 1 1\n5\n",
		"grid 0 0 99 1 1\n5\n", "grid 0 0 10001 1 1\n5\n", "grid 0 0 -100 1 1\n5\n", "grid 0 0 100 0 0\n", "grid 0 0 100 0 1\n\n", "grid 0 0 100 1 0\n", "grid 0 0 100 -1 -1\n5\n",
		"grid 0 0 100 1 1\n20001\n", "grid 0 0 100 1 1\n-20001\n", "grid 0 0 100 1 1\n30000\n", "grid 0 0 100 1 1\n-30000\n", "grid 0 0 100 1 1\n99999999999999999999\n",
		"grid 0 0 100 1 1\n9223372036854775807\n", "grid 0 0 99999999999999999999 1 1\n5\n", "grid 0 0 100 9223372036854775807 9223372036854775807\n5\n",
		"grid 0 0 100 1025 1\n" + strings.Repeat("5 ", 1024) + "5\n", "grid 0 0 100 25 41\n" + strings.Repeat(strings.Repeat("5 ", 24)+"5\n", 41),
	} {
		same(t, of(bed.Parse(text)), refused(api.ErrSyntax), "Parse", text)
	}
}

func TestP48ParseLarge(t *testing.T) {
	const right = "grid 0 0 100 1 1\n5\n"
	for _, fill := range []string{"x", " ", "\n", "5", "-", "\x00", "5 ", right} {
		long := strings.Repeat(fill, 20001)
		same(t, of(bed.Parse(long[:20000])), refused(api.ErrSyntax), "Parse of 20000", fill)
		same(t, of(bed.Parse(long[:20001])), refused(api.ErrLarge), "Parse of 20001", fill)
		same(t, of(bed.Parse(long)), refused(api.ErrLarge), "Parse of more", fill)
		same(t, of(bed.Parse(right+long[:20000-len(right)])), refused(api.ErrSyntax), "Parse of 20000 behind a right one", fill)
		same(t, of(bed.Parse(right+long[:20001-len(right)])), refused(api.ErrLarge), "Parse of 20001 behind a right one", fill)
	}
}

// shape is the text of a grid as far as it can be told without counting: no level is Unknown written as a number.
func shape() *regexp.Regexp {
	const number = `(?:0|-?[1-9][0-9]*)`
	const word = `(?:-|` + number + `)`
	return regexp.MustCompile(`\Agrid (` + number + `) (` + number + `) (` + number + `) (` + number + `) (` + number + `)\n((?:` + word + `(?: ` + word + `)*\n)+)\z`)
}

// isText reports whether a text is that of a valid grid with few cells.
func isText(shape *regexp.Regexp, text string) bool {
	m := shape.FindStringSubmatch(text)
	if m == nil {
		return false
	}
	var v []int
	for _, word := range m[1:6] {
		n := 0
		for _, c := range strings.TrimPrefix(word, "-") {
			n = min(10*n+int(c-'0'), 1<<40)
		}
		if word[0] == '-' {
			n = -n
		}
		v = append(v, n)
	}
	var levels []int
	rows := strings.Split(strings.TrimSuffix(m[6], "\n"), "\n")
	for _, row := range rows {
		words := strings.Split(row, " ")
		if len(words) != v[3] {
			return false
		}
		for _, word := range words {
			if word != "-" && (len(word) > 6 || len(strings.TrimPrefix(word, "-")) == 5 && strings.TrimPrefix(word, "-") > "20000" || len(strings.TrimPrefix(word, "-")) > 5) {
				return false
			}
			levels = append(levels, 0)
		}
	}
	return len(rows) == v[4] && bed.Check(with(frame(v[0], v[1], v[2], v[3], v[4]), levels...)) == api.OK
}

// One or two bytes of a text changed.
func TestP48ParseComputed(t *testing.T) {
	s := &numbers{16}
	const bytes = "0123456789-- +\n\nx"
	accepted, shape := 0, shape()
	for range 60000 {
		text, _ := bed.Print(s.grid(3, 3, 300))
		for range 1 + s.next(2) {
			i, c := s.next(len(text)), bytes[s.next(len(bytes))]
			text = text[:i] + []string{string(c), ""}[s.next(2)] + text[i+s.next(2):]
		}
		g, e := bed.Parse(text)
		if !isText(shape, text) {
			same(t, of(g, e), refused(api.ErrSyntax), "Parse", text)
			continue
		}
		accepted++
		same(t, e, api.OK, "Parse", text)
		back, e := bed.Print(g)
		same(t, e, api.OK, "Print", text)
		same(t, back, text, "Print", text)
	}
	same(t, accepted > 10000, true, "right texts are looked at", accepted)
}

// Each level is read as it is written.
func TestP48EachLevel(t *testing.T) {
	for first := -highest; first <= highest; first += 1024 {
		g := with(frame(0, 0, 100, 32, 32), rising(1024, first)...)
		for i := range g.Levels {
			g.Levels[i] = min(g.Levels[i], highest)
		}
		text, e := bed.Print(g)
		same(t, e, api.OK, "Print", first)
		got, e := bed.Parse(text)
		same(t, e, api.OK, "Parse", first)
		same(t, slices.Equal(got.Levels, g.Levels), true, "the levels", first)
	}
}
