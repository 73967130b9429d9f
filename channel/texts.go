package channel

import (
	"iter"
	"strconv"
	"strings"

	"draghead/api"
)

// The words with which the lines begin.
const (
	channelWord = "channel"
	axisWord    = "axis"
	regionWord  = "region"
)

// The numbers in the lines of a channel and of an axis point.
const (
	channelNumbers = 2
	axisNumbers    = 5
)

const (
	mostBytes = 20000
	mostSize  = 99999999 // the greatest number with 8 digits
)

// Print returns the text of a channel (P5.8).
func Print(c api.Channel) (string, api.Errno) {
	if e := Check(c); e != api.OK {
		return "", e
	}
	var out strings.Builder
	out.WriteString(textOf(channelWord+" "+c.Name, c.Over, c.Buffer))
	for _, a := range c.Axis {
		out.WriteString(textOf(axisWord, a.X, a.Y, a.Half, a.Level, a.Run))
	}
	for _, r := range c.Regions {
		numbers := []int{r.Kind}
		for _, p := range r.Corners {
			numbers = append(numbers, p.X, p.Y)
		}
		out.WriteString(textOf(regionWord+" "+r.Name, numbers...))
	}
	return out.String(), api.OK
}

// Parse returns the channel whose text it is, or the line that is wrong and the error.
func Parse(s string) (api.Channel, int, api.Errno) {
	if len(s) > mostBytes {
		return api.Channel{}, 0, api.ErrLarge
	}
	c, wrong := read(s)
	if wrong > 0 {
		return api.Channel{}, wrong, api.ErrSyntax
	}
	if e := Check(c); e != api.OK {
		return api.Channel{}, 0, e
	}
	return c, 0, api.OK
}

// textOf writes a line: how it begins, and its numbers.
func textOf(head string, numbers ...int) string {
	for _, n := range numbers {
		head += " " + strconv.Itoa(n)
	}
	return head + "\n"
}

// lines yields the lines of a text, and whether they have a line feed at their end. Of an empty text it yields an empty one.
func lines(text string) iter.Seq2[string, bool] {
	return func(yield func(string, bool) bool) {
		line, rest, isEnded := strings.Cut(text, "\n")
		for yield(line, isEnded) && rest != "" {
			line, rest, isEnded = strings.Cut(rest, "\n")
		}
	}
}

// read returns a channel, which may have errors, and the number of the first line that has not the required form, or 0.
func read(text string) (api.Channel, int) {
	var c api.Channel
	count := 0
	for line, isEnded := range lines(text) {
		count++
		if !isEnded || !readLine(&c, strings.Split(line, " "), count == 1) {
			return api.Channel{}, count
		}
	}
	return c, 0
}

// readLine takes the words of a line up into a channel; false if they are not what may stand there.
func readLine(c *api.Channel, words []string, isFirst bool) bool {
	if isFirst {
		return readChannel(c, words)
	}
	switch words[0] {
	case axisWord:
		return len(c.Regions) == 0 && readAxis(c, words[1:])
	case regionWord:
		return readRegion(c, words)
	}
	return false
}

func readChannel(c *api.Channel, words []string) bool {
	name, v, ok := readNamed(channelWord, words)
	if !ok || len(v) != channelNumbers {
		return false
	}
	c.Name, c.Over, c.Buffer = name, v[0], v[1]
	return true
}

func readAxis(c *api.Channel, words []string) bool {
	v, ok := readNumbers(words)
	if !ok || len(v) != axisNumbers {
		return false
	}
	c.Axis = append(c.Axis, api.AxisPoint{X: v[0], Y: v[1], Half: v[2], Level: v[3], Run: v[4]})
	return true
}

func readRegion(c *api.Channel, words []string) bool {
	name, v, ok := readNamed(regionWord, words)
	// The kind, and two numbers for each corner.
	if !ok || len(v)%2 != 1 {
		return false
	}
	r := api.Region{Name: name, Kind: v[0]}
	for k := 1; k < len(v); k += 2 {
		r.Corners = append(r.Corners, api.Point{X: v[k], Y: v[k+1]})
	}
	c.Regions = append(c.Regions, r)
	return true
}

// readNamed reads the words of a line that begins with a certain word and a name.
func readNamed(head string, words []string) (name string, numbers []int, ok bool) {
	if len(words) < 2 || words[0] != head || words[1] == "" {
		return "", nil, false
	}
	numbers, ok = readNumbers(words[2:])
	return words[1], numbers, ok
}

func readNumbers(words []string) ([]int, bool) {
	var out []int
	for _, word := range words {
		n, err := strconv.Atoi(word)
		// A text that is not written back as it was has leading zeros, a plus sign or "-0".
		if err != nil || !within(n, -mostSize, mostSize) || strconv.Itoa(n) != word {
			return nil, false
		}
		out = append(out, n)
	}
	return out, true
}
