package sounding_test

import (
	"math"
	"strings"
	"testing"

	"draghead/api"
	"draghead/sounding"
)

func TestP37Raws(t *testing.T) {
	for _, c := range []struct {
		r    api.Raw
		text string
	}{
		{api.Raw{Number: 7, Minute: 10, X: -5, Depth: 500, Draught: 40, Error: 10}, "raw 7 10 -5 0 500 40 10"},
		{api.Raw{Number: 1, Minute: 2, X: 3, Y: 4, Depth: 5, Draught: 6, Error: 7}, "raw 1 2 3 4 5 6 7"},
		{least(), "raw 1 0 -1000000 -1000000 0 0 0"},
		{greatest(), "raw 1000000 1000000 1000000 1000000 20000 20000 1000"},
	} {
		text, e := sounding.FormatRaw(c.r)
		same(t, e, api.OK, "FormatRaw", c.r)
		same(t, text, c.text, "FormatRaw", c.r)
		r, e := sounding.ParseRaw(c.text)
		same(t, e, api.OK, "ParseRaw", c.text)
		same(t, r, c.r, "ParseRaw", c.text)
	}
	for _, r := range invalidRaws() {
		same(t, ofText(sounding.FormatRaw(r)), refused(api.ErrRange), "FormatRaw", r)
	}
}

func TestP37ParseRawErrors(t *testing.T) {
	for _, text := range []string{
		"", " ", "raw", "raw ", "raw 7", "raw 7 10 -5 0 500 40", "raw 7 10 -5 0 500 40 10 ", "raw 7 10 -5 0 500 40 10 5", "raw 7 10 -5 0 500 40 10\n",
		" raw 7 10 -5 0 500 40 10", "raw  7 10 -5 0 500 40 10", "raw 7 10 -5 0 500  40 10", "raw 7 10 -5 0 500 40 ", "7 10 -5 0 500 40 10", "Raw 7 10 -5 0 500 40 10",
		"raws 7 10 -5 0 500 40 10", "raw7 10 -5 0 500 40 10", "raw\t7 10 -5 0 500 40 10", "raw 7\t10 -5 0 500 40 10", "raw 7 10 -5 0 500 40 10\r", "raw 7,10,-5,0,500,40,10",
		"raw raw 7 10 -5 0 500 40 10", "raw 7 10 -5 0 500 40 10\x00", "raw 7 10 -5 0 500 40 x", "raw x 10 -5 0 500 40 10", "raw 7 10 -5 - 500 40 10",
		"raw 07 10 -5 0 500 40 10", "raw 7 010 -5 0 500 40 10", "raw 7 10 -05 0 500 40 10", "raw 7 10 -0 0 500 40 10", "raw 7 10 -5 -0 500 40 10", "raw 7 10 -5 00 500 40 10",
		"raw +7 10 -5 0 500 40 10", "raw 7 10 +5 0 500 40 10", "raw 7 10 -5 0 500 40 1e1", "raw 7 10 -5 0 500 40 0x1", "raw 7 10 -5 0 500 40 1_0", "raw 7 10 -5 0 500 40 1.0",
		"raw 7 10 --5 0 500 40 10", "raw 7 10 5- 0 500 40 10", "raw 7 10 -5 0 500 40 \u0661", "raw 7 10 -5 0 500 40 99999999999999999999", "raw -99999999999999999999 10 -5 0 500 40 10",
		"raw 7 10 -5 0 500 40 10 " + strings.Repeat(" ", 1000), "raw" + strings.Repeat(" 1", 1000), "raw " + strings.Repeat("0", 1000),
		// Those of no valid raw sounding.
		"raw 0 10 -5 0 500 40 10", "raw -7 10 -5 0 500 40 10", "raw 1000001 10 -5 0 500 40 10", "raw 7 -1 -5 0 500 40 10", "raw 7 1000001 -5 0 500 40 10",
		"raw 7 10 -1000001 0 500 40 10", "raw 7 10 1000001 0 500 40 10", "raw 7 10 -5 -1000001 500 40 10", "raw 7 10 -5 1000001 500 40 10", "raw 7 10 -5 0 -1 40 10",
		"raw 7 10 -5 0 20001 40 10", "raw 7 10 -5 0 500 -1 10", "raw 7 10 -5 0 500 20001 10", "raw 7 10 -5 0 500 40 -1", "raw 7 10 -5 0 500 40 1001",
		"raw 7 10 -5 0 500 40 9223372036854775807", "raw 7 10 -9223372036854775808 0 500 40 10",
	} {
		same(t, ofRaw(sounding.ParseRaw(text)), refused(api.ErrSyntax), "ParseRaw", text)
	}
}

func TestP37Sheet(t *testing.T) {
	l := example()
	for _, c := range []struct {
		l    []api.Sounding
		text string
	}{
		{nil, ""},
		{[]api.Sounding{}, ""},
		{l[:2], "1 0 0 -510 -500\n2 30 40 -480 -470\n"},
		{[]api.Sounding{l[3], l[0]}, "4 900 0 -900 -890\n1 0 0 -510 -500\n"}, // in the order of l
		{[]api.Sounding{at(1, -2, 3, -4, 5)}, "1 -2 3 -4 5\n"},
		{extremes(), "1 -1000000 1000000 -100000 100000\n1000000 1000000 -1000000 100000 100000\n2 0 0 -100000 -100000\n3 0 0 0 0\n"},
	} {
		text, e := sounding.Sheet(c.l)
		same(t, e, api.OK, "Sheet", c.l)
		same(t, text, c.text, "Sheet", c.l)
		got, n, e := sounding.ParseSheet(c.text)
		same(t, e, api.OK, "ParseSheet", c.text)
		same(t, n, 0, "ParseSheet", c.text)
		sameList(t, got, c.l, "ParseSheet", c.text)
	}
	for want, l := range faulty() {
		same(t, ofText(sounding.Sheet(l)), refused(want), "Sheet", l)
	}
}

// unread fails the test unless the text has this error, in this line.
func unread(t *testing.T, text string, line int, want api.Errno) {
	t.Helper()
	got, n, e := sounding.ParseSheet(text)
	same(t, e, want, "ParseSheet", text)
	same(t, n, line, "ParseSheet", text)
	same(t, len(got), 0, "ParseSheet", text)
}

func TestP37ParseSheetSyntax(t *testing.T) {
	const one, two = "1 0 0 -510 -500\n", "2 30 40 -480 -470\n"
	for _, line := range []string{
		"\n", " \n", "3\n", "3 0 0 -510\n", "3 0 0 -510 \n", "3 0 0 -510 -500 \n", "3 0 0 -510 -500 0\n", " 3 0 0 -510 -500\n", "3  0 0 -510 -500\n", "3 0 0  -510 -500\n",
		"3 0 0 -510 -500\r\n", "3 0 0 -510\t-500\n", "3\t0 0 -510 -500\n", "3 0 0 -510 -500\x00\n", "3,0,0,-510,-500\n", "x\n", "x 0 0 -510 -500\n", "3 0 0 -510 x\n", "raw 3 0 0 -510 -500\n",
		"03 0 0 -510 -500\n", "3 00 0 -510 -500\n", "3 0 00 -510 -500\n", "3 0 0 -0510 -500\n", "3 -0 0 -510 -500\n", "3 0 0 -510 -0\n", "+3 0 0 -510 -500\n", "3 0 0 -510 +5\n",
		"3 0 0 -510 - 500\n", "3 0 0 -510 --500\n", "3 0 0 -510 500-\n", "3 0 0 -510 5e2\n", "3 0 0 -510 0x5\n", "3 0 0 -510 5_0\n", "3 0 0 -510 0.5\n", "3 0 0 -510 \u0661\n",
		"3 0 0 -510 99999999999999999999\n", "3 0 0 -99999999999999999999 0\n", "\r\n", "3 0 0 -510 \n", "\xff\n",
		// Those of no valid sounding.
		"0 0 0 -510 -500\n", "-3 0 0 -510 -500\n", "1000001 0 0 -510 -500\n", "3 1000001 0 -510 -500\n", "3 -1000001 0 -510 -500\n", "3 0 1000001 -510 -500\n", "3 0 -1000001 -510 -500\n",
		"3 0 0 -500 -510\n", "3 0 0 1 0\n", "3 0 0 -100001 0\n", "3 0 0 0 100001\n", "3 0 0 -9223372036854775808 9223372036854775807\n",
		// Without a line feed at the end.
		"3", "3 0 0 -510 -500", " ", "x",
	} {
		unread(t, line, 1, api.ErrSyntax)
		unread(t, one+line, 2, api.ErrSyntax)
		unread(t, one+two+line, 3, api.ErrSyntax)
		unread(t, one+one+line, 3, api.ErrSyntax) // before the error of the sheet
		unread(t, strings.Repeat(one, 501)+line, 502, api.ErrSyntax)
		if strings.HasSuffix(line, "\n") {
			unread(t, line+one, 1, api.ErrSyntax)
			unread(t, one+line+"x", 2, api.ErrSyntax) // the first line that is wrong
			unread(t, one+line+line, 2, api.ErrSyntax)
		}
	}
	unread(t, "1 0 0 -510 -500\n\n2 30 40 -480 -470\n", 2, api.ErrSyntax)
	unread(t, one+"\n", 2, api.ErrSyntax)
}

func TestP37ParseSheetErrors(t *testing.T) {
	const one = "1 0 0 -510 -500\n"
	unread(t, one+one, 0, api.ErrExists)
	unread(t, one+"2 0 0 0 0\n1 5 6 7 8\n", 0, api.ErrExists)
	all, e := sounding.Sheet(line(500))
	same(t, e, api.OK, "Sheet of 500")
	got, n, e := sounding.ParseSheet(all)
	same(t, e, api.OK, "ParseSheet of 500")
	same(t, n, 0, "ParseSheet of 500")
	sameList(t, got, line(500), "ParseSheet of 500")
	unread(t, all+"501 0 0 0 0\n", 0, api.ErrLarge)
	unread(t, all+one, 0, api.ErrLarge) // before ErrExists
	unread(t, strings.TrimSuffix(all, "\n"), 500, api.ErrSyntax)
}

func TestP37ParseSheetLarge(t *testing.T) {
	// 4096 lines of 16 bytes are 65536 bytes.
	const one = "1 0 0 -510 -500\n"
	same(t, len(one), 16, "the bytes of a line")
	full := strings.Repeat(one, 4096)
	unread(t, full, 0, api.ErrLarge) // too many soundings
	unread(t, full[:len(full)-1], 4096, api.ErrSyntax)
	unread(t, full[:len(full)-1]+"x", 4096, api.ErrSyntax)
	unread(t, full+"\n", 0, api.ErrLarge) // too many bytes
	unread(t, "x"+full, 0, api.ErrLarge)
	unread(t, strings.Repeat("x", 65536), 1, api.ErrSyntax)
	unread(t, strings.Repeat("x", 65537), 0, api.ErrLarge)
	unread(t, strings.Repeat(" ", 65536), 1, api.ErrSyntax)
	unread(t, strings.Repeat("\n", 65536), 1, api.ErrSyntax)
	unread(t, strings.Repeat("\n", 65537), 0, api.ErrLarge)
	unread(t, strings.Repeat("9", 65535)+"\n", 1, api.ErrSyntax)
	unread(t, strings.Repeat("x", 1<<20), 0, api.ErrLarge)
}

// One byte of a text changed: what is read then has just this text.
func TestP37OneText(t *testing.T) {
	s := &numbers{39}
	const bytes = "0123456789- +\nx\x00"
	text, raw := "12 -30 40 -510 -500\n2 0 7 0 0\n", "raw 7 10 -5 0 500 40 10"
	for range 20000 {
		i, c := s.next(len(text)), bytes[s.next(len(bytes))]
		changed := text[:i] + string(c) + text[i+1-s.next(2):]
		l, n, e := sounding.ParseSheet(changed)
		back, f := sounding.Sheet(l)
		same(t, f, api.OK, "Sheet", changed)
		same(t, e != api.OK || back == changed && n == 0, true, "ParseSheet", changed)
		same(t, e != api.ErrSyntax || n > 0 && len(l) == 0, true, "ParseSheet", changed)
		i = s.next(len(raw))
		changed = raw[:i] + string(c) + raw[i+1-s.next(2):]
		r, e := sounding.ParseRaw(changed)
		back, _ = sounding.FormatRaw(r)
		same(t, e == api.OK && back == changed || e == api.ErrSyntax && r == api.Raw{}, true, "ParseRaw", changed)
	}
}

// R2: no number is too great to be told.
func TestP37Ends(t *testing.T) {
	for _, n := range []int{math.MinInt, math.MaxInt} {
		same(t, ofText(sounding.FormatRaw(api.Raw{Number: n, Minute: n, X: n, Y: n, Depth: n, Draught: n, Error: n})), refused(api.ErrRange), "FormatRaw", n)
		same(t, ofText(sounding.Sheet([]api.Sounding{at(n, n, n, n, n)})), refused(api.ErrRange), "Sheet", n)
	}
}
