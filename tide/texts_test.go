package tide_test

import (
	"strings"
	"testing"

	"draghead/api"
	"draghead/tide"
)

func TestP27Print(t *testing.T) {
	const x, v, m = api.MaxPlace, api.MaxLevel, api.MaxMinute
	far := api.Gauge{Name: "A-1", X: -x, Error: api.MaxError, Marks: marks(0, -v, 7, 0, m, v)}
	for _, c := range []struct {
		g    api.Gauge
		want string
	}{
		{pier(), "gauge pier 0 2\n0 0\n10 25\n"},
		{lock(), "gauge lock 1000 0\n0 100\n10 100\n"},
		{exact(), "gauge g 0 0\n"},
		{far, "gauge A-1 -1000000 1000\n0 -20000\n7 0\n1000000 20000\n"},
	} {
		got, e := tide.Print(c.g)
		same(t, e, api.OK, "Print", c.g)
		same(t, got, c.want, "Print", c.g)
	}
	for _, g := range []api.Gauge{{}, exact(0, 0, 0, 0), full(401)} {
		got, e := tide.Print(g)
		same(t, e, tide.CheckGauge(g), "Print", g)
		same(t, got, "", "Print", g)
	}
}

func TestP27Parse(t *testing.T) {
	for _, c := range []struct {
		text string
		want api.Gauge
	}{
		{"gauge pier 0 2\n0 0\n10 25\n", pier()},
		{"gauge g 0 0\n", exact()},
		{"gauge gauge -5 0\n3 -7\n", api.Gauge{Name: "gauge", X: -5, Marks: marks(3, -7)}},
		{"gauge A-1 -1000000 1000\n0 -20000\n1000000 20000\n", api.Gauge{Name: "A-1", X: -1000000, Error: 1000, Marks: marks(0, -20000, 1000000, 20000)}},
	} {
		got, line, e := tide.Parse(c.text)
		same(t, e, api.OK, "Parse", c.text)
		same(t, line, 0, "Parse", c.text)
		sameGauge(t, got, c.want, "Parse", c.text)
	}
}

// unread fails the test unless the text has this error, in this line.
func unread(t *testing.T, text string, line int, want api.Errno) {
	t.Helper()
	got, n, e := tide.Parse(text)
	same(t, e, want, "Parse", text)
	same(t, n, line, "Parse", text)
	same(t, isEmpty(got), true, "Parse", text)
}

func TestP27ParseSyntax(t *testing.T) {
	for _, text := range []string{
		"", "\n", " \n", "gauge g 0 0", "gauge", "gauge\n", "gauge g\n", "gauge g 0\n", "gauge g 0 0 \n", " gauge g 0 0\n", "gauge g 0 0 0\n",
		"gauge  g 0 0\n", "gauge g  0 0\n", "gauge g 0  0\n", "gauge  0 0\n", "gauge 0 0\n", "Gauge g 0 0\n", "gauges g 0 0\n", "g 0 0\n",
		"gauge g 0 0\r\n", "gauge\tg 0 0\n", "gauge g\t0 0\n", "\ngauge g 0 0\n", "0 0\n", "gauge g a 0\n", "gauge g 0 a\n", "gauge g 00 0\n",
		"gauge g 0 00\n", "gauge g +1 0\n", "gauge g 0 -0\n", "gauge g - 0\n", "gauge g 1.0 0\n", "gauge g 12345678 0\n", "gauge g 0 12345678\n",
		"gauge g 0 0 0 0\n", "gaugeg 0 0\n", "gauge g 0 0\x00\n", "\xff", "gauge g 0 0\v0 0\n",
	} {
		unread(t, text, 1, api.ErrSyntax)
	}
}

func TestP27ParseMarks(t *testing.T) {
	head := "gauge g 0 0\n"
	for _, line := range []string{
		"\n", " \n", "0\n", "0 \n", " 0\n", "0  0\n", " 0 0\n", "0 0 \n", "0 0 0\n", "0 0", "0", "a 0\n", "0 a\n", "0,0\n", "0\t0\n", "0 0\r\n",
		"00 0\n", "0 00\n", "01 0\n", "0 01\n", "0 -01\n", "-0 0\n", "0 -0\n", "+0 0\n", "0 +5\n", "- 0\n", "0 -\n", "0 --1\n", "0 1-\n", "0x1 0\n", "0 1_0\n",
		"0 1e1\n", "12345678 0\n", "0 12345678\n", "0 -12345678\n", "0 10000000\n", "0 -10000000\n", "0 99999999999999999999\n", "0 \u0661\n", "gauge g 0 0\n",
	} {
		unread(t, head+line, 2, api.ErrSyntax)
		unread(t, head+"0 0\n1 1\n"+line, 4, api.ErrSyntax)
		unread(t, head+"9 0\n9 0\n"+line, 4, api.ErrSyntax) // before the error of the gauge
		if strings.HasSuffix(line, "\n") {
			unread(t, head+line+"x", 2, api.ErrSyntax) // the first line that is wrong
		}
	}
	unread(t, "gauge g\n"+"x", 1, api.ErrSyntax)
	unread(t, head+"0 0\n1 1", 3, api.ErrSyntax)
}

func TestP27ParseGauge(t *testing.T) {
	for _, c := range []struct {
		text string
		want api.Errno
	}{
		{"gauge 1 0 0\n", api.ErrName},
		{"gauge 1 9999999 0\n0 0\n", api.ErrName},
		{"gauge a\tb 0 0\n", api.ErrName}, // a name is any text without a blank
		{"gauge \xff 0 0\n", api.ErrName},
		{"gauge g\r 0 0\n", api.ErrName},
		{"gauge abcdefghijklm 0 0\n", api.ErrName},
		{"gauge g 1000001 0\n", api.ErrRange},
		{"gauge g -9999999 0\n", api.ErrRange}, // seven digits are a number
		{"gauge g 9999999 0\n", api.ErrRange},
		{"gauge g 0 -1\n", api.ErrRange},
		{"gauge g 0 0\n-9999999 0\n", api.ErrRange},
		{"gauge g 0 0\n0 9999999\n", api.ErrRange},
		{"gauge g 0 0\n1 0\n1 0\n", api.ErrOrder},
		{"gauge g 0 0\n" + strings.Repeat("0 0\n", 401), api.ErrLarge},
	} {
		unread(t, c.text, 0, c.want)
	}
}

func TestP27ParseLarge(t *testing.T) {
	// The head has 20 bytes, each mark 4.
	head := "gauge abcdefg 0 100\n"
	for _, c := range []struct {
		text string
		line int
		want api.Errno
	}{
		{head + strings.Repeat("0 0\n", 4995), 0, api.ErrLarge}, // 20000 bytes: too many marks
		{head + strings.Repeat("0 0\n", 4994) + "0 00", 4996, api.ErrSyntax},
		{head + strings.Repeat("0 0\n", 4994) + "0 00\n", 0, api.ErrLarge}, // 20001 bytes
		{strings.Repeat("x", 20000), 1, api.ErrSyntax},
		{strings.Repeat("x", 20001), 0, api.ErrLarge},
		{"gauge " + strings.Repeat("x", 19989) + " 0 0\n", 0, api.ErrName},
		{"gauge " + strings.Repeat("x", 19990) + " 0 0\n", 0, api.ErrLarge},
		{"gauge g 0 0\n" + strings.Repeat("x", 30000), 0, api.ErrLarge},
	} {
		unread(t, c.text, c.line, c.want)
	}
	same(t, len(head), 20, "bytes of the head")
}
