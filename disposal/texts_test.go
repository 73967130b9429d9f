package disposal_test

import (
	"regexp"
	"strings"
	"testing"

	"draghead/api"
	"draghead/disposal"
)

const (
	pitLines     = "pit Clean 10000 -500 -400 300 0\npit Deep 10000 -900 -700 500 0 1\n"
	factorLines  = "bulking sand 5 4 1\nbulking silt 3 2 0\n"
	depositLines = "deposit 1 Clean 500001\n"
	whole        = pitLines + factorLines + depositLines
)

// ofParse is the answer of Parse; the number of a line is looked at apart.
func ofParse(s api.Yard, _ int, e api.Errno) answer { return of(s, e) }

func checkParse(t *testing.T, text string, line int, want api.Errno) {
	t.Helper()
	s, n, e := disposal.Parse(text)
	same(t, ofParse(s, n, e), refused(want), "Parse", text[:min(len(text), 200)])
	same(t, n, line, "Parse: the line", text[:min(len(text), 200)])
}

func TestP98Texts(t *testing.T) {
	for _, x := range []struct {
		s    api.Yard
		text string
	}{
		{api.Yard{}, ""},
		{begun(), whole},
		{plain(), "bulking s 1 1 0\n"},
		{api.Yard{Pits: pits(2)}, "pit a 1 0 1 0\npit b 1 0 1 0\n"},
		{having(api.Yard{Pits: pits(1)}, deposit(3, "a", 1), deposit(2, "a", 0)), "pit a 1 0 1 0\ndeposit 3 a 1\ndeposit 2 a 0\n"},
		{api.Yard{Bulking: []api.Bulking{factor("pit", 9, 6), factor("bulking", 1, 1000)}, Carry: []int{5, 999}}, "bulking pit 9 6 5\nbulking bulking 1 1000 999\n"},
		{
			having(plain(pit("deposit", widest, -highest, highest, 10000, 0, 1, 2, 3, 4, 5, 6, 7, 8, 9), box("A-1234567890", 1, 0)), deposit(greatest, "deposit", mostRoom)),
			"pit deposit 1000000000 -20000 20000 10000 0 1 2 3 4 5 6 7 8 9\npit A-1234567890 1 0 1 0\nbulking s 1 1 0\ndeposit 1000000 deposit 40000000000000\n",
		},
	} {
		text, e := disposal.Print(x.s)
		same(t, e, api.OK, "Print", x)
		same(t, text, x.text, "Print", x)
		s, n, e := disposal.Parse(x.text)
		same(t, e, api.OK, "Parse", x)
		same(t, n, 0, "Parse", x)
		sameYard(t, s, x.s, "Parse", x)
	}
}

// The longest text is short enough to be read back.
func TestP98Longest(t *testing.T) {
	var s api.Yard
	for k := range api.MaxPits {
		s.Pits = append(s.Pits, pit("Abcdefghijk"+letter(k), widest, -highest, -highest+10000, 10000, 0, 1, 2, 3, 4, 5, 6, 7, 8, 9))
	}
	for k := range 20 {
		s.Bulking = append(s.Bulking, factor("Abcdefghijk"+letter(k), 1000, 1000))
		s.Carry = append(s.Carry, 999)
	}
	for k := range api.MaxDeposits {
		s.Deposits = append(s.Deposits, deposit(greatest-k, s.Pits[k%8].Name, 400000000000-1))
	}
	text, e := disposal.Print(s)
	same(t, e, api.OK, "Print")
	same(t, len(text) > 8000, true, "the length", len(text))
	got, n, e := disposal.Parse(text)
	same(t, e, api.OK, "Parse")
	same(t, n, 0, "Parse")
	sameYard(t, got, s, "Parse")
}

func TestP98ParseSyntax(t *testing.T) {
	for _, line := range []string{
		"", " ", "x", "#", "Pit A 1 0 1 0", "pits A 1 0 1 0", "pit", "pit ", "pit A", "pit A ", "pit A 1", "pit A 1 0", "pit A 1 0 1", "pit A 1 0 1 ", "pit  1 0 1 0", "pit  A 1 0 1 0", "pit A  1 0 1 0", "pit A 1 0 1  0",
		"pit A 1 0 1 0 ", " pit A 1 0 1 0", "pit\tA 1 0 1 0", "pit A\t1 0 1 0", "pit A 1 0 1 0\r", "pit A 1 0 1 0 0 ", "pit A 1 0 1 0  0", "pit A B 1 0 1 0", "pit A x 0 1 0", "pit A 1 x 1 0", "pit A 1 0 x 0", "pit A 1 0 1 x", "pit A 1 0 1 0 x",
		"pit A 01 0 1 0", "pit A +1 0 1 0", "pit A 1 -0 1 0", "pit A 1 00 1 0", "pit A 1 -01 1 0", "pit A 1 0 1.0 0", "pit A 1_0 0 1 0", "pit A 0x1 0 1 0", "pit A - 0 1 0", "pit A 1 0 1 \u0661", "pit A 1 0 1 0\x00", "pit A 1 0 1 0 1e1",
		"pit A 1000000000000000 0 1 0", "pit A 1 -1000000000000000 1 0", "pit A 1 0 1 0 1000000000000000", "pit A 1 0 1 99999999999999999999", "pit A 1 0 1 0 9223372036854775808", "pit A 1 0 1 0 18446744073709551617",
	} {
		checkParse(t, line+"\n"+whole, 1, api.ErrSyntax)
		checkParse(t, pitLines+line+"\n", 3, api.ErrSyntax)
		checkParse(t, pitLines+line+"\n"+line+"\n"+line, 3, api.ErrSyntax)
	}
	for _, line := range []string{
		"", "bulking", "bulking ", "bulking s", "bulking s 1", "bulking s 1 1", "bulking s 1 1 ", "bulking s 1 1 0 0", "bulking s 1 1 0 ", "bulking  1 1 0", "bulking  s 1 1 0", "bulking s  1 1 0", " bulking s 1 1 0", "Bulking s 1 1 0", "bulk s 1 1 0",
		"bulking s x 1 0", "bulking s 1 x 0", "bulking s 1 1 x", "bulking s 01 1 0", "bulking s 1 +1 0", "bulking s 1 1 -0", "bulking s 1 1 1000000000000000", "bulking s -1000000000000000 1 0", "bulking s t 1 1 0", "bulking\ts 1 1 0", "bulking s 1 1 0\r", "bulking s 1/1 0",
		"pit A 1 0 1 0", "pit A 1 0 1 0 0", // pits stand before the factors
	} {
		checkParse(t, pitLines+factorLines+line+"\n", 5, api.ErrSyntax)
		checkParse(t, factorLines+line+"\n"+line+"\n"+depositLines, 3, api.ErrSyntax)
	}
	for _, line := range []string{
		"", "deposit", "deposit ", "deposit 1", "deposit 1 ", "deposit 1 A", "deposit 1 A ", "deposit 1 A 5 5", "deposit 1 A 5 ", "deposit 1  5", "deposit  1 A 5", "deposit 1  A 5", "deposit 1 A  5", " deposit 1 A 5", "Deposit 1 A 5", "deposits 1 A 5",
		"deposit x A 5", "deposit 1 A x", "deposit A 1 5", "deposit 01 A 5", "deposit 1 A 05", "deposit +1 A 5", "deposit 1 A -0", "deposit 1000000000000000 A 5", "deposit 1 A 1000000000000000", "deposit 1 A 9223372036854775808", "deposit\t1 A 5", "deposit 1 A 5\r",
		"pit A 1 0 1 0", "bulking s 1 1 0", // both stand before the deposits
	} {
		checkParse(t, whole+line+"\n", 6, api.ErrSyntax)
		checkParse(t, depositLines+line+"\n"+line, 2, api.ErrSyntax)
		checkParse(t, pitLines+depositLines+line+"\n", 4, api.ErrSyntax)
	}
}

func TestP98ParseEnd(t *testing.T) {
	for _, text := range []string{pitLines, factorLines, depositLines, whole, pitLines + depositLines, pitLines + factorLines} {
		n := strings.Count(text, "\n")
		checkParse(t, text[:len(text)-1], n, api.ErrSyntax)
		checkParse(t, text+"\n", n+1, api.ErrSyntax)
		checkParse(t, text+" ", n+1, api.ErrSyntax)
		checkParse(t, text+"x", n+1, api.ErrSyntax)
		checkParse(t, "\n"+text, 1, api.ErrSyntax)
	}
	checkParse(t, "\n", 1, api.ErrSyntax)
	checkParse(t, " ", 1, api.ErrSyntax)
	// Syntax before the errors of Check.
	checkParse(t, "pit 9 0 0 0 0\nbulking 9 0 0 0\ndeposit 0 9 0\nx\n", 4, api.ErrSyntax)
	checkParse(t, strings.Repeat("pit a 1 0 1 0\n", 20)+"x", 21, api.ErrSyntax)
}

func TestP98ParseCheck(t *testing.T) {
	for _, x := range []struct {
		text string
		want api.Errno
	}{
		{strings.Repeat("pit a 1 0 1 0\n", 9), api.ErrLarge},
		{strings.Repeat("pit a 1 0 1 0\n", 2), api.ErrExists},
		{"pit 9 1 0 1 0\n", api.ErrName},
		{"pit A\t 1 0 1 0\n", api.ErrName}, // only the blank separates words
		{"pit \r 1 0 1 0\n", api.ErrName},
		{"pit thirteen-long 1 0 1 0\n", api.ErrName},
		{"pit A 0 0 1 0\n", api.ErrRange},
		{"pit A -1 0 1 0\n", api.ErrRange},
		{"pit A 999999999999999 0 1 0\n", api.ErrRange}, // 15 digits
		{"pit A 1 -999999999999999 1 0\n", api.ErrRange},
		{"pit A 1 1 0 0\n", api.ErrOrder},
		{"pit A 1 0 1 10001\n", api.ErrRange},
		{"pit A 1 0 1 0 1 0\n", api.ErrOrder},
		{"pit A 1 0 1 0 10\n", api.ErrRange},
		{strings.Repeat("bulking s 1 1 0\n", 21), api.ErrLarge},
		{strings.Repeat("bulking s 1 1 0\n", 2), api.ErrExists},
		{"bulking 9 1 1 0\n", api.ErrName},
		{"bulking s 11 1 0\n", api.ErrRange},
		{"bulking s 1 0 0\n", api.ErrRange},
		{"bulking s 1 1 1\n", api.ErrRange},
		{"bulking s 1 2 -1\n", api.ErrRange},
		{pitLines + strings.Repeat("deposit 1 Clean 0\n", 201), api.ErrLarge},
		{pitLines + strings.Repeat("deposit 1 Clean 0\n", 2), api.ErrExists},
		{pitLines + "deposit 0 Clean 0\n", api.ErrRange},
		{"deposit 1 A 5\n", api.ErrMissing},
		{pitLines + "deposit 1 9 0\n", api.ErrMissing},
		{pitLines + "deposit 1 Clean -1\n", api.ErrRange},
		{pitLines + "deposit 1 Clean 100000000000001\n", api.ErrRange},
		{pitLines + "deposit 1 Clean 1000001\n", api.ErrCapacity},
	} {
		checkParse(t, x.text, 0, x.want)
	}
}

func TestP98ParseLarge(t *testing.T) {
	line := "pit A 1 0 1 0"
	checkParse(t, strings.Repeat("x", 20000), 1, api.ErrSyntax)
	checkParse(t, strings.Repeat("\n", 20000), 1, api.ErrSyntax)
	checkParse(t, strings.Repeat("x", 20001), 0, api.ErrLarge)
	checkParse(t, strings.Repeat("\n", 20001), 0, api.ErrLarge)
	checkParse(t, line+strings.Repeat(" 0", 9993)+"\n", 0, api.ErrOrder) // 20000 bytes
	checkParse(t, line+strings.Repeat(" 0", 9992)+" 00\n", 0, api.ErrLarge)
	checkParse(t, strings.Repeat("pit a 1 0 1 0\n", 1429), 0, api.ErrLarge)
	checkParse(t, strings.Repeat("pit a 1 0 1 0\n", 1000)+"x", 1001, api.ErrSyntax)
	checkParse(t, whole+strings.Repeat("x", 20000-len(whole)), 6, api.ErrSyntax)
}

// form is what the lines of the kinds look like.
func form() []*regexp.Regexp {
	const number, word = `(0|-?[1-9][0-9]{0,14})`, `[^ \n]+`
	return []*regexp.Regexp{
		regexp.MustCompile(`^pit ` + word + ` ` + number + `( ` + number + `){3,}$`),
		regexp.MustCompile(`^bulking ` + word + ` ` + number + ` ` + number + ` ` + number + `$`),
		regexp.MustCompile(`^deposit ` + number + ` ` + word + ` ` + number + `$`),
	}
}

// badLine is the number of the first line that has not the required form, or 0.
func badLine(text string, forms []*regexp.Regexp) int {
	kind := 0
	for k, line := range strings.SplitAfter(text, "\n") {
		if line == "" {
			break
		}
		is := -1
		for i, f := range forms {
			if strings.HasSuffix(line, "\n") && f.MatchString(strings.TrimSuffix(line, "\n")) {
				is = i
			}
		}
		if is < kind {
			return k + 1
		}
		kind = is
	}
	return 0
}

// What is read is written back as it was, and what differs from a text by one byte is another yard or has an error.
func TestP98BackAndForth(t *testing.T) {
	s := &numbers{98}
	forms := form()
	read, broken, other := 0, 0, 0
	for range 3000 {
		y := s.yard()
		text, e := disposal.Print(y)
		same(t, e, api.OK, "Print", y)
		got, n, e := disposal.Parse(text)
		same(t, e, api.OK, "Parse", text)
		same(t, n, 0, "Parse", text)
		sameYard(t, got, y, "Parse", text)
		changed := []byte(text)
		for range 1 + s.next(2) {
			changed[s.next(len(changed))] = "0 1\n-+a9"[s.next(8)]
		}
		got, n, e = disposal.Parse(string(changed))
		same(t, n, badLine(string(changed), forms), "Parse: the line", string(changed))
		same(t, e == api.ErrSyntax, n > 0, "Parse: the error", string(changed))
		switch {
		case e == api.OK:
			again, _ := disposal.Print(got)
			same(t, again, string(changed), "Print", got)
			read++
		case n > 0:
			broken++
		default:
			other++
		}
		same(t, e == api.OK || ofParse(got, n, e).empty, true, "nothing beside an error", string(changed))
	}
	same(t, read > 100 && broken > 100 && other > 100, true, "there is enough of all", read, broken, other)
}
