package channel_test

import (
	"regexp"
	"strings"
	"testing"

	"draghead/api"
	"draghead/channel"
)

const (
	head = "channel Main 30 0\n"
	two  = "axis 0 0 1000 -1000 4\naxis 10000 0 1000 -1000 4\n"
	one  = "region A 2 0 0 5 0 0 -5\n"
)

// ofParse is the answer of Parse; the number of a line is looked at apart.
func ofParse(c api.Channel, _ int, e api.Errno) answer { return of(c, e) }

func checkParse(t *testing.T, text string, line int, want api.Errno) {
	t.Helper()
	c, n, e := channel.Parse(text)
	same(t, ofParse(c, n, e), refused(want), "Parse", text)
	same(t, n, line, "Parse: the line", text)
}

func TestP58Texts(t *testing.T) {
	const far = farthest
	wide := api.Channel{Name: "A", Over: 1000, Buffer: 100000, Axis: []api.AxisPoint{axis(-far, far, 100000, -highest+1000, 1000), axis(far, -far, 1, highest, 0)}}
	for _, x := range []struct {
		c    api.Channel
		text string
	}{
		{example(), head + two},
		{having(example(), region("A", 2, 0, 0, 5, 0, 0, -5)), head + two + one},
		{bent(), "channel Bent 0 0\naxis 0 0 300 -800 0\naxis 4000 0 500 -1000 2\naxis 4000 3000 500 -1000 2\n"},
		{wide, "channel A 1000 100000\naxis -1000000 1000000 100000 -19000 1000\naxis 1000000 -1000000 1 20000 0\n"},
		{
			having(example(), block("b-9", 0, -far, -far, far, far), region("B", 3, 0, 0, 1, 0, 0, 1), region("channel", 1, 0, 0, 1, 0, 0, -1)),
			head + two + "region b-9 0 -1000000 -1000000 1000000 -1000000 1000000 1000000 -1000000 1000000\nregion B 3 0 0 1 0 0 1\nregion channel 1 0 0 1 0 0 -1\n",
		},
	} {
		text, e := channel.Print(x.c)
		same(t, e, api.OK, "Print", x)
		same(t, text, x.text, "Print", x)
		c, n, e := channel.Parse(x.text)
		same(t, e, api.OK, "Parse", x)
		same(t, n, 0, "Parse", x)
		sameChannel(t, c, x.c, "Parse", x)
	}
	for want, c := range faulty() {
		same(t, of(channel.Print(c)), refused(want), "Print", c)
	}
}

// The longest text is short enough to be read back.
func TestP58Longest(t *testing.T) {
	const far = farthest
	c := api.Channel{Name: "Abcdefghijkl", Over: 1000, Buffer: 100000}
	for i := range 20 {
		c.Axis = append(c.Axis, axis(-far, -far+i, 100000, -19000, 1000))
	}
	for k := range 20 {
		r := api.Region{Name: "Abcdefghijk" + string(rune('A'+k))}
		for i := range 20 {
			r.Corners = append(r.Corners, at(i-far, -far+i*i))
		}
		for i := range 20 {
			r.Corners = append(r.Corners, at(19-i-far, -far+1000-i))
		}
		c.Regions = append(c.Regions, r)
	}
	same(t, channel.Check(c), api.OK, "Check")
	text, e := channel.Print(c)
	same(t, e, api.OK, "Print")
	same(t, len(text) > 14000 && len(text) <= 20000, true, "the length", len(text))
	got, n, e := channel.Parse(text)
	same(t, e, api.OK, "Parse")
	same(t, n, 0, "Parse")
	sameChannel(t, got, c, "Parse")
}

func TestP58ParseSyntax(t *testing.T) {
	for _, text := range []string{
		"", "\n", " ", "\n" + head + two, " " + head + two, "channel", "channel\n", "channel A\n", "channel A 0\n", "channel A 0 0", "channel A 0 0 0\n" + two, "channel  0 0\n" + two, "channel  A 0 0\n" + two,
		"channel A  0 0\n" + two, "channel A 0 0 \n" + two, "channel A 0 0\r" + two, "channel A 0 0\r\n" + two, "channel\tA 0 0\n" + two, "Channel A 0 0\n" + two, "channels A 0 0\n" + two, two, one, "axis 0 0 1 1 1\n" + head + two,
		"channel A x 0\n" + two, "channel A 0 x\n" + two, "channel A 00 0\n" + two, "channel A +1 0\n" + two, "channel A -0 0\n" + two, "channel A 01 0\n" + two, "channel A 1.0 0\n" + two, "channel A 1_0 0\n" + two, "channel A 0x1 0\n" + two,
		"channel A - 0\n" + two, "channel A 100000000 0\n" + two, "channel A 0 -100000000\n" + two, "channel A 0 99999999999999999999\n" + two, "channel A B 0 0\n" + two, "channel 0 0\n" + two, "channel A \u0661 0\n" + two, "channel A 0 0\x00\n" + two,
	} {
		checkParse(t, text, 1, api.ErrSyntax)
	}
	for _, line := range []string{
		"", " ", "axis", "axis ", "axis 0 0 1 1", "axis 0 0 1 1 1 1", "axis 0 0 1 1 1 ", " axis 0 0 1 1 1", "axis  0 0 1 1 1", "axis 0 0 1  1 1", "axis\t0 0 1 1 1", "axis 0 0 1 1 1\r", "Axis 0 0 1 1 1", "axes 0 0 1 1 1", "axis A 0 0 1 1 1", "0 0 1 1 1",
		"axis x 0 1 1 1", "axis 0 x 1 1 1", "axis 0 0 x 1 1", "axis 0 0 1 x 1", "axis 0 0 1 1 x", "axis 00 0 1 1 1", "axis 0 -0 1 1 1", "axis 0 0 +1 1 1", "axis 0 0 1 01 1", "axis 0 0 1 1 100000000", "axis -100000000 0 1 1 1", "axis 0 0 1 1 9223372036854775808",
		"channel Main 30 0", "channel", "#", "axis 0 0 1 1 1\v", "region", "region ", "region A", "region A ", "region A 2 ", "region A 2 1", "region A 2 1 2 3", "region  2 1 2", "region A 2  1 2", "region A 2 1 2 ", " region A 2", "Region A 2", "regions A 2", "region A x", "region A 2 x 1", "region A 2 1 x", "region A 02", "region A 2 1 -0", "region A 2 +1 1", "region A 2 1 100000000", "region A B 2 1 1 1", "region 2", "region\tA 2 1 1",
		"region A 2 0 0 5 0 0",
	} {
		checkParse(t, head+line+"\n"+two, 2, api.ErrSyntax)
		checkParse(t, head+two+line+"\n", 4, api.ErrSyntax)
		checkParse(t, head+two+line+"\n"+line+"\n"+line, 4, api.ErrSyntax)
		checkParse(t, head+two+one+line+"\n"+one, 5, api.ErrSyntax)
	}
	// Behind the first region line there are only region lines.
	checkParse(t, head+two+one+two, 5, api.ErrSyntax)
	checkParse(t, head+one+two, 3, api.ErrSyntax)
	checkParse(t, head+two+one+one+"axis 0 0 1 1 1\n"+one, 6, api.ErrSyntax)
	checkParse(t, head+two+head, 4, api.ErrSyntax)
	checkParse(t, head+head+two, 2, api.ErrSyntax)
	// No line feed at the end.
	for _, text := range []string{head, head + two, head + two + one} {
		checkParse(t, text[:len(text)-1], strings.Count(text, "\n"), api.ErrSyntax)
		checkParse(t, text+"\n", strings.Count(text, "\n")+1, api.ErrSyntax)
		checkParse(t, text+" ", strings.Count(text, "\n")+1, api.ErrSyntax)
		checkParse(t, "\n"+text, 1, api.ErrSyntax)
	}
	// Syntax before the errors of Check.
	checkParse(t, "channel 9 -1 -1\nregion 9 9\nx\n", 3, api.ErrSyntax)
	checkParse(t, head+strings.Repeat("axis 0 0 0 0 0\n", 30)+"x", 32, api.ErrSyntax)
}

func TestP58ParseCheck(t *testing.T) {
	for _, x := range []struct {
		text string
		want api.Errno
	}{
		{"channel A 0 0\n", api.ErrShape},
		{"channel 9 0 0\n", api.ErrName},
		{"channel 0 0 0\n", api.ErrName},
		{"channel A\t 0 0\n" + two, api.ErrName}, // only the blank separates words
		{"channel \u00a0 0 0\n" + two, api.ErrName},
		{"channel A\r 0 0\n" + two, api.ErrName},
		{"channel thirteen-long 0 0\n" + two, api.ErrName},
		{"channel A 1001 0\n" + two, api.ErrRange},
		{"channel A 99999999 0\n" + two, api.ErrRange}, // 8 digits
		{"channel A 0 -99999999\n" + two, api.ErrRange},
		{"channel A 0 100001\n" + two, api.ErrRange},
		{head + "axis 0 0 1 1 1\n", api.ErrShape},
		{head + one, api.ErrShape}, // regions may stand where there are no axis lines
		{head + strings.Repeat("axis 0 0 0 0 0\n", 21), api.ErrLarge},
		{head + "axis 99999999 -99999999 1 1 1\n" + two, api.ErrRange},
		{head + two + "axis 10000 0 1 1 1\n", api.ErrExists},
		{head + two + one + one, api.ErrExists},
		{head + two + "region 9 2 0 0 5 0 0 -5\n", api.ErrName},
		{head + two + "region A 4 0 0 5 0 0 -5\n", api.ErrRange},
		{head + two + "region A -1 0 0 5 0 0 -5\n", api.ErrRange},
		{head + two + "region A 2\n", api.ErrShape}, // no corners
		{head + two + "region A 2 0 0 5 0\n", api.ErrShape},
		{head + two + "region A 2" + strings.Repeat(" 0 0", 41) + "\n", api.ErrLarge},
		{head + two + "region A 2 0 0 5 0 0 99999999\n", api.ErrRange},
		{head + two + "region A 2 0 0 5 0 0 0\n", api.ErrForm},
		{head + two + strings.Repeat("region A 2\n", 21), api.ErrLarge},
	} {
		checkParse(t, x.text, 0, x.want)
	}
}

func TestP58ParseLarge(t *testing.T) {
	for _, fill := range []string{"x", " ", "\n", "5", "-", "\x00", "5 ", two, one} {
		long := head + two + strings.Repeat(fill, 20001)
		_, n, e := channel.Parse(long[:20000])
		same(t, e != api.ErrLarge || n != 0 || fill == two || fill == one, true, "Parse of 20000", fill)
		checkParse(t, long[:20001], 0, api.ErrLarge)
		checkParse(t, long, 0, api.ErrLarge)
	}
	checkParse(t, strings.Repeat("x", 20000), 1, api.ErrSyntax)
	checkParse(t, strings.Repeat("\n", 20000), 1, api.ErrSyntax)
	checkParse(t, head+"region "+strings.Repeat("A", 20000-len(head)-10)+" 2\n", 0, api.ErrShape)
	checkParse(t, head+two+"region "+strings.Repeat("A", 20000-len(head+two)-10)+" 2\n", 0, api.ErrName)
	checkParse(t, head+two+"region "+strings.Repeat("A", 20000-len(head+two)-9)+" 2\n", 0, api.ErrLarge)
}

// forms is the patterns of the lines.
type forms struct{ channel, axis, region *regexp.Regexp }

func makeForms() forms {
	const number = `(?:0|-?[1-9][0-9]{0,7})`
	return forms{
		channel: regexp.MustCompile(`\Achannel [^ \n]+ ` + number + ` ` + number + `\n\z`),
		axis:    regexp.MustCompile(`\Aaxis(?: ` + number + `){5}\n\z`),
		region:  regexp.MustCompile(`\Aregion [^ \n]+ ` + number + `(?: ` + number + ` ` + number + `)*\n\z`),
	}
}

// firstWrong is the number of the first line that has not its form, or 0.
func (f forms) firstWrong(text string) int {
	behind := false
	for i, line := range strings.SplitAfter(text, "\n") {
		isRegion := f.region.MatchString(line)
		switch {
		case i == 0 && f.channel.MatchString(line):
		case i > 0 && line == "":
			return 0
		case i > 0 && (isRegion || !behind && f.axis.MatchString(line)):
			behind = isRegion
		default:
			return i + 1
		}
	}
	return 0
}

// One or two bytes of a text changed.
func TestP58ParseComputed(t *testing.T) {
	s := &numbers{60}
	const bytes = "0123456789--  +\n\nxar"
	wrong, refusals, accepted, forms := 0, 0, 0, makeForms()
	for range 20000 {
		text, e := channel.Print(s.regions(s.channel(300), 300))
		same(t, e, api.OK, "Print", text)
		for range 1 + s.next(2) {
			i, c := s.next(len(text)), bytes[s.next(len(bytes))]
			text = text[:i] + []string{string(c), ""}[s.next(2)] + text[i+s.next(2):]
		}
		if n := forms.firstWrong(text); n > 0 {
			wrong++
			checkParse(t, text, n, api.ErrSyntax)
			continue
		}
		c, n, e := channel.Parse(text)
		same(t, n, 0, "Parse", text)
		if e != api.OK {
			refusals++
			same(t, e != api.ErrSyntax && e != api.ErrLarge, true, "Parse", text)
			same(t, of(c, e), refused(e), "Parse", text)
			continue
		}
		accepted++
		back, e := channel.Print(c)
		same(t, e, api.OK, "Print", text)
		same(t, back, text, "Print", text)
	}
	same(t, wrong > 3000 && refusals > 100 && accepted > 3000, true, "all kinds of texts are looked at", wrong, refusals, accepted)
}
